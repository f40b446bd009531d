/- Chapter 14: proofs that two elements are the same power: the functions of both sides. Made by tools/gen14/b.py. -/
import Derived.Test.YtdhakbpimbadgaaWalk14b
namespace Go.Proofs.Ytdhakbpimbadgaa
open Go.RowKit
set_option maxRecDepth 100000

set_option maxHeartbeats 2000000 in
theorem s_l14Pair (a b : Int) (w : World) :
    Calls Try.prog 97 #[.agg #[.int .i64 a, .int .i64 b]] w fun e w' => e = .returned (.bool (elB a && elB b)) ∧ Below w.heap.size w w' := by
  obtain ⟨W0, hW0⟩ : ∃ W, Hid ((w.alloc (.cells #[.int .i64 a, .int .i64 b] 80)) = W) := ⟨_, Lib.hid rfl⟩
  have HB : Hid (Below w.heap.size w W0) := Lib.hid (by rw [← hW0.out]; exact (Below.refl _ _).alloc (Nat.le_refl _) _)
  have z_0 : w.heap.size + 1 ≤ W0.heap.size := by rw [← hW0.out]; simp only [World.size_alloc]; omega
  have HX_a : Hid (Bx W0 (w.heap.size) #[.int .i64 a, .int .i64 b] 80) := Lib.hid (by rw [← hW0.out]; have := Bx.new w #[.int .i64 a, .int .i64 b] 80; exact this)
  go_enter Try.func97, Try.ntmps97
  go_wp2_with fail
  rw [hW0.out]
  clear hW0
  refine (s_ElementOk _ _).mono ?_
  rintro e w' ⟨rfl, rfl⟩
  cases h1 : elB a
  · have fc1 : W0.cell? ⟨w.heap.size, 0, none⟩ = some (.int .i64 a) := HX_a.out.cell 0
    have fc2 : W0.cell? ⟨w.heap.size, 1, none⟩ = some (.int .i64 b) := HX_a.out.cell 1
    go_wp2
    go_ret
    exact ⟨ret_bool (by rw [h1]; rfl), HB.out⟩
  have fc3 : W0.cell? ⟨w.heap.size, 0, none⟩ = some (.int .i64 a) := HX_a.out.cell 0
  have fc4 : W0.cell? ⟨w.heap.size, 1, none⟩ = some (.int .i64 b) := HX_a.out.cell 1
  go_wp2_with fail
  clear fc3 fc4
  refine (s_ElementOk _ _).mono ?_
  rintro e w' ⟨rfl, rfl⟩
  go_wp2
  go_ret
  exact ⟨ret_bool (by rw [h1]; rfl), HB.out⟩

set_option maxHeartbeats 2000000 in
theorem X_s_TwinMake (a b s n c : Int) (w : World) :
    Calls Try.prog 57 #[.agg #[.int .i64 a, .int .i64 b], .int .i64 s, .int .i64 n, .int .i64 c] w fun e w' => e = .returned (.tuple #[.agg #[.int .i64 ((tmakeD a b s n c).1), .int .i64 ((tmakeD a b s n c).2.1), .int .i64 ((tmakeD a b s n c).2.2.1), .int .i64 ((tmakeD a b s n c).2.2.2)], .bool (tmakeB a b s n c)]) ∧ Below w.heap.size w w' := by
  obtain ⟨W0, hW0⟩ : ∃ W, Hid (((w.alloc (.cells #[.int .i64 a, .int .i64 b] 80)).alloc (.cells #[.int .i64 0, .int .i64 0, .int .i64 0, .int .i64 0] 76)) = W) := ⟨_, Lib.hid rfl⟩
  have HB : Hid (Below w.heap.size w W0) := Lib.hid (by rw [← hW0.out]; exact ((Below.refl _ _).alloc (Nat.le_refl _) _).alloc (by simp only [World.size_alloc]; omega) _)
  have z_0 : w.heap.size + 2 ≤ W0.heap.size := by rw [← hW0.out]; simp only [World.size_alloc]; omega
  have HX_base : Hid (Bx W0 (w.heap.size) #[.int .i64 a, .int .i64 b] 80) := Lib.hid (by rw [← hW0.out]; have := Bx.new w #[.int .i64 a, .int .i64 b] 80; exact (this.alloc _))
  have HX_R : Hid (Bx W0 (w.heap.size + 1) #[.int .i64 0, .int .i64 0, .int .i64 0, .int .i64 0] 76) := Lib.hid (by rw [← hW0.out]; have := Bx.new (w.alloc (.cells #[.int .i64 a, .int .i64 b] 80)) #[.int .i64 0, .int .i64 0, .int .i64 0, .int .i64 0] 76; simp only [World.size_alloc] at this; exact this)
  go_enter Try.func57, Try.ntmps57
  go_wp2_with fail
  rw [hW0.out]
  clear hW0
  refine (s_l14Pair a b _).mono ?_
  rintro e w1 ⟨rfl, hb⟩
  have z1 : W0.heap.size ≤ w1.heap.size := hb.size
  replace HX_base := Lib.hid (HX_base.out.below hb HX_base.out.lt)
  replace HX_R := Lib.hid (HX_R.out.below hb HX_R.out.lt)
  replace HB := Lib.hid (HB.out.trans (hb.mono (by omega)))
  clear hb
  cases hab : (elB a && elB b)
  · have HF : Hid (tmakeD a b s n c = (0, 0, 0, 0) ∧ tmakeB a b s n c = false) := Lib.hid (by 
      have hb : tmakeB a b s n c = false := by simp [tmakeB, makeB, hab]
      exact ⟨by unfold tmakeD; rw [hb]; rfl, hb⟩)
    have fc2 : w1.cell? ⟨w.heap.size, 0, none⟩ = some (.int .i64 a) := HX_base.out.cell 0
    have fc3 : w1.cell? ⟨w.heap.size, 1, none⟩ = some (.int .i64 b) := HX_base.out.cell 1
    have fc4 : w1.cell? ⟨(w.heap.size + 1), 0, none⟩ = some (.int .i64 0) := HX_R.out.cell 0
    have fc5 : w1.cell? ⟨(w.heap.size + 1), 1, none⟩ = some (.int .i64 0) := HX_R.out.cell 1
    have fc6 : w1.cell? ⟨(w.heap.size + 1), 2, none⟩ = some (.int .i64 0) := HX_R.out.cell 2
    have fc7 : w1.cell? ⟨(w.heap.size + 1), 3, none⟩ = some (.int .i64 0) := HX_R.out.cell 3
    have fz8 : w1.frozen? ⟨(w.heap.size + 1), 0, none⟩ = false := HX_R.out.free 0
    have fz9 : w1.frozen? ⟨(w.heap.size + 1), 1, none⟩ = false := HX_R.out.free 1
    have fz10 : w1.frozen? ⟨(w.heap.size + 1), 2, none⟩ = false := HX_R.out.free 2
    have fz11 : w1.frozen? ⟨(w.heap.size + 1), 3, none⟩ = false := HX_R.out.free 3
    go_wp2
    exact bodyPost_ret (v := .tuple #[.agg #[.int .i64 0, .int .i64 0, .int .i64 0, .int .i64 0], .bool false]) (resTw2 rfl rfl rfl (((((HX_R.out).set 0 (.int .i64 0)).set 1 (.int .i64 0)).set 2 (.int .i64 0)).set 3 (.int .i64 0))) rfl ⟨by rw [HF.out.1, HF.out.2], (by first | exact ((((HB.out).setCell (p := ⟨(w.heap.size + 1), 0, none⟩) (by first | exact Nat.le_refl _ | (simp only; omega)) _).setCell (p := ⟨(w.heap.size + 1), 1, none⟩) (by first | exact Nat.le_refl _ | (simp only; omega)) _).setCell (p := ⟨(w.heap.size + 1), 2, none⟩) (by first | exact Nat.le_refl _ | (simp only; omega)) _).setCell (p := ⟨(w.heap.size + 1), 3, none⟩) (by first | exact Nat.le_refl _ | (simp only; omega)) _ | exact (((((HB.out).setCell (p := ⟨(w.heap.size + 1), 0, none⟩) (by first | exact Nat.le_refl _ | (simp only; omega)) _).setCell (p := ⟨(w.heap.size + 1), 1, none⟩) (by first | exact Nat.le_refl _ | (simp only; omega)) _).setCell (p := ⟨(w.heap.size + 1), 2, none⟩) (by first | exact Nat.le_refl _ | (simp only; omega)) _).setCell (p := ⟨(w.heap.size + 1), 3, none⟩) (by first | exact Nat.le_refl _ | (simp only; omega)) _).drew)⟩
  have fc12 : w1.cell? ⟨w.heap.size, 0, none⟩ = some (.int .i64 a) := HX_base.out.cell 0
  have fc13 : w1.cell? ⟨w.heap.size, 1, none⟩ = some (.int .i64 b) := HX_base.out.cell 1
  have fc14 : w1.cell? ⟨(w.heap.size + 1), 0, none⟩ = some (.int .i64 0) := HX_R.out.cell 0
  have fc15 : w1.cell? ⟨(w.heap.size + 1), 1, none⟩ = some (.int .i64 0) := HX_R.out.cell 1
  have fc16 : w1.cell? ⟨(w.heap.size + 1), 2, none⟩ = some (.int .i64 0) := HX_R.out.cell 2
  have fc17 : w1.cell? ⟨(w.heap.size + 1), 3, none⟩ = some (.int .i64 0) := HX_R.out.cell 3
  go_wp2_with fail
  clear fc12 fc13 fc14 fc15 fc16 fc17
  refine (s_NumOk _ _).mono ?_
  rintro e w' ⟨rfl, rfl⟩
  cases hs : numB s
  · have HF : Hid (tmakeD a b s n c = (0, 0, 0, 0) ∧ tmakeB a b s n c = false) := Lib.hid (by 
      have hb : tmakeB a b s n c = false := by simp [tmakeB, makeB, hs]
      exact ⟨by unfold tmakeD; rw [hb]; rfl, hb⟩)
    have fc18 : w1.cell? ⟨w.heap.size, 0, none⟩ = some (.int .i64 a) := HX_base.out.cell 0
    have fc19 : w1.cell? ⟨w.heap.size, 1, none⟩ = some (.int .i64 b) := HX_base.out.cell 1
    have fc20 : w1.cell? ⟨(w.heap.size + 1), 0, none⟩ = some (.int .i64 0) := HX_R.out.cell 0
    have fc21 : w1.cell? ⟨(w.heap.size + 1), 1, none⟩ = some (.int .i64 0) := HX_R.out.cell 1
    have fc22 : w1.cell? ⟨(w.heap.size + 1), 2, none⟩ = some (.int .i64 0) := HX_R.out.cell 2
    have fc23 : w1.cell? ⟨(w.heap.size + 1), 3, none⟩ = some (.int .i64 0) := HX_R.out.cell 3
    have fz24 : w1.frozen? ⟨(w.heap.size + 1), 0, none⟩ = false := HX_R.out.free 0
    have fz25 : w1.frozen? ⟨(w.heap.size + 1), 1, none⟩ = false := HX_R.out.free 1
    have fz26 : w1.frozen? ⟨(w.heap.size + 1), 2, none⟩ = false := HX_R.out.free 2
    have fz27 : w1.frozen? ⟨(w.heap.size + 1), 3, none⟩ = false := HX_R.out.free 3
    go_wp2
    exact bodyPost_ret (v := .tuple #[.agg #[.int .i64 0, .int .i64 0, .int .i64 0, .int .i64 0], .bool false]) (resTw2 rfl rfl rfl (((((HX_R.out).set 0 (.int .i64 0)).set 1 (.int .i64 0)).set 2 (.int .i64 0)).set 3 (.int .i64 0))) rfl ⟨by rw [HF.out.1, HF.out.2], (by first | exact ((((HB.out).setCell (p := ⟨(w.heap.size + 1), 0, none⟩) (by first | exact Nat.le_refl _ | (simp only; omega)) _).setCell (p := ⟨(w.heap.size + 1), 1, none⟩) (by first | exact Nat.le_refl _ | (simp only; omega)) _).setCell (p := ⟨(w.heap.size + 1), 2, none⟩) (by first | exact Nat.le_refl _ | (simp only; omega)) _).setCell (p := ⟨(w.heap.size + 1), 3, none⟩) (by first | exact Nat.le_refl _ | (simp only; omega)) _ | exact (((((HB.out).setCell (p := ⟨(w.heap.size + 1), 0, none⟩) (by first | exact Nat.le_refl _ | (simp only; omega)) _).setCell (p := ⟨(w.heap.size + 1), 1, none⟩) (by first | exact Nat.le_refl _ | (simp only; omega)) _).setCell (p := ⟨(w.heap.size + 1), 2, none⟩) (by first | exact Nat.le_refl _ | (simp only; omega)) _).setCell (p := ⟨(w.heap.size + 1), 3, none⟩) (by first | exact Nat.le_refl _ | (simp only; omega)) _).drew)⟩
  have fc28 : w1.cell? ⟨w.heap.size, 0, none⟩ = some (.int .i64 a) := HX_base.out.cell 0
  have fc29 : w1.cell? ⟨w.heap.size, 1, none⟩ = some (.int .i64 b) := HX_base.out.cell 1
  have fc30 : w1.cell? ⟨(w.heap.size + 1), 0, none⟩ = some (.int .i64 0) := HX_R.out.cell 0
  have fc31 : w1.cell? ⟨(w.heap.size + 1), 1, none⟩ = some (.int .i64 0) := HX_R.out.cell 1
  have fc32 : w1.cell? ⟨(w.heap.size + 1), 2, none⟩ = some (.int .i64 0) := HX_R.out.cell 2
  have fc33 : w1.cell? ⟨(w.heap.size + 1), 3, none⟩ = some (.int .i64 0) := HX_R.out.cell 3
  go_wp2_with fail
  clear fc28 fc29 fc30 fc31 fc32 fc33
  refine (s_NumOk _ _).mono ?_
  rintro e w' ⟨rfl, rfl⟩
  cases hn : numB n
  · have HF : Hid (tmakeD a b s n c = (0, 0, 0, 0) ∧ tmakeB a b s n c = false) := Lib.hid (by 
      have hb : tmakeB a b s n c = false := by simp [tmakeB, makeB, hn]
      exact ⟨by unfold tmakeD; rw [hb]; rfl, hb⟩)
    have fc34 : w1.cell? ⟨w.heap.size, 0, none⟩ = some (.int .i64 a) := HX_base.out.cell 0
    have fc35 : w1.cell? ⟨w.heap.size, 1, none⟩ = some (.int .i64 b) := HX_base.out.cell 1
    have fc36 : w1.cell? ⟨(w.heap.size + 1), 0, none⟩ = some (.int .i64 0) := HX_R.out.cell 0
    have fc37 : w1.cell? ⟨(w.heap.size + 1), 1, none⟩ = some (.int .i64 0) := HX_R.out.cell 1
    have fc38 : w1.cell? ⟨(w.heap.size + 1), 2, none⟩ = some (.int .i64 0) := HX_R.out.cell 2
    have fc39 : w1.cell? ⟨(w.heap.size + 1), 3, none⟩ = some (.int .i64 0) := HX_R.out.cell 3
    have fz40 : w1.frozen? ⟨(w.heap.size + 1), 0, none⟩ = false := HX_R.out.free 0
    have fz41 : w1.frozen? ⟨(w.heap.size + 1), 1, none⟩ = false := HX_R.out.free 1
    have fz42 : w1.frozen? ⟨(w.heap.size + 1), 2, none⟩ = false := HX_R.out.free 2
    have fz43 : w1.frozen? ⟨(w.heap.size + 1), 3, none⟩ = false := HX_R.out.free 3
    go_wp2
    exact bodyPost_ret (v := .tuple #[.agg #[.int .i64 0, .int .i64 0, .int .i64 0, .int .i64 0], .bool false]) (resTw2 rfl rfl rfl (((((HX_R.out).set 0 (.int .i64 0)).set 1 (.int .i64 0)).set 2 (.int .i64 0)).set 3 (.int .i64 0))) rfl ⟨by rw [HF.out.1, HF.out.2], (by first | exact ((((HB.out).setCell (p := ⟨(w.heap.size + 1), 0, none⟩) (by first | exact Nat.le_refl _ | (simp only; omega)) _).setCell (p := ⟨(w.heap.size + 1), 1, none⟩) (by first | exact Nat.le_refl _ | (simp only; omega)) _).setCell (p := ⟨(w.heap.size + 1), 2, none⟩) (by first | exact Nat.le_refl _ | (simp only; omega)) _).setCell (p := ⟨(w.heap.size + 1), 3, none⟩) (by first | exact Nat.le_refl _ | (simp only; omega)) _ | exact (((((HB.out).setCell (p := ⟨(w.heap.size + 1), 0, none⟩) (by first | exact Nat.le_refl _ | (simp only; omega)) _).setCell (p := ⟨(w.heap.size + 1), 1, none⟩) (by first | exact Nat.le_refl _ | (simp only; omega)) _).setCell (p := ⟨(w.heap.size + 1), 2, none⟩) (by first | exact Nat.le_refl _ | (simp only; omega)) _).setCell (p := ⟨(w.heap.size + 1), 3, none⟩) (by first | exact Nat.le_refl _ | (simp only; omega)) _).drew)⟩
  have fc44 : w1.cell? ⟨w.heap.size, 0, none⟩ = some (.int .i64 a) := HX_base.out.cell 0
  have fc45 : w1.cell? ⟨w.heap.size, 1, none⟩ = some (.int .i64 b) := HX_base.out.cell 1
  have fc46 : w1.cell? ⟨(w.heap.size + 1), 0, none⟩ = some (.int .i64 0) := HX_R.out.cell 0
  have fc47 : w1.cell? ⟨(w.heap.size + 1), 1, none⟩ = some (.int .i64 0) := HX_R.out.cell 1
  have fc48 : w1.cell? ⟨(w.heap.size + 1), 2, none⟩ = some (.int .i64 0) := HX_R.out.cell 2
  have fc49 : w1.cell? ⟨(w.heap.size + 1), 3, none⟩ = some (.int .i64 0) := HX_R.out.cell 3
  go_wp2_with fail
  clear fc44 fc45 fc46 fc47 fc48 fc49
  refine (s_NumOk _ _).mono ?_
  rintro e w' ⟨rfl, rfl⟩
  cases hc : numB c
  · have HF : Hid (tmakeD a b s n c = (0, 0, 0, 0) ∧ tmakeB a b s n c = false) := Lib.hid (by 
      have hb : tmakeB a b s n c = false := by simp [tmakeB, makeB, hc]
      exact ⟨by unfold tmakeD; rw [hb]; rfl, hb⟩)
    have fc50 : w1.cell? ⟨w.heap.size, 0, none⟩ = some (.int .i64 a) := HX_base.out.cell 0
    have fc51 : w1.cell? ⟨w.heap.size, 1, none⟩ = some (.int .i64 b) := HX_base.out.cell 1
    have fc52 : w1.cell? ⟨(w.heap.size + 1), 0, none⟩ = some (.int .i64 0) := HX_R.out.cell 0
    have fc53 : w1.cell? ⟨(w.heap.size + 1), 1, none⟩ = some (.int .i64 0) := HX_R.out.cell 1
    have fc54 : w1.cell? ⟨(w.heap.size + 1), 2, none⟩ = some (.int .i64 0) := HX_R.out.cell 2
    have fc55 : w1.cell? ⟨(w.heap.size + 1), 3, none⟩ = some (.int .i64 0) := HX_R.out.cell 3
    have fz56 : w1.frozen? ⟨(w.heap.size + 1), 0, none⟩ = false := HX_R.out.free 0
    have fz57 : w1.frozen? ⟨(w.heap.size + 1), 1, none⟩ = false := HX_R.out.free 1
    have fz58 : w1.frozen? ⟨(w.heap.size + 1), 2, none⟩ = false := HX_R.out.free 2
    have fz59 : w1.frozen? ⟨(w.heap.size + 1), 3, none⟩ = false := HX_R.out.free 3
    go_wp2
    exact bodyPost_ret (v := .tuple #[.agg #[.int .i64 0, .int .i64 0, .int .i64 0, .int .i64 0], .bool false]) (resTw2 rfl rfl rfl (((((HX_R.out).set 0 (.int .i64 0)).set 1 (.int .i64 0)).set 2 (.int .i64 0)).set 3 (.int .i64 0))) rfl ⟨by rw [HF.out.1, HF.out.2], (by first | exact ((((HB.out).setCell (p := ⟨(w.heap.size + 1), 0, none⟩) (by first | exact Nat.le_refl _ | (simp only; omega)) _).setCell (p := ⟨(w.heap.size + 1), 1, none⟩) (by first | exact Nat.le_refl _ | (simp only; omega)) _).setCell (p := ⟨(w.heap.size + 1), 2, none⟩) (by first | exact Nat.le_refl _ | (simp only; omega)) _).setCell (p := ⟨(w.heap.size + 1), 3, none⟩) (by first | exact Nat.le_refl _ | (simp only; omega)) _ | exact (((((HB.out).setCell (p := ⟨(w.heap.size + 1), 0, none⟩) (by first | exact Nat.le_refl _ | (simp only; omega)) _).setCell (p := ⟨(w.heap.size + 1), 1, none⟩) (by first | exact Nat.le_refl _ | (simp only; omega)) _).setCell (p := ⟨(w.heap.size + 1), 2, none⟩) (by first | exact Nat.le_refl _ | (simp only; omega)) _).setCell (p := ⟨(w.heap.size + 1), 3, none⟩) (by first | exact Nat.le_refl _ | (simp only; omega)) _).drew)⟩
  obtain ⟨v, hv⟩ : ∃ v, Hid ((n + c * s) % 113 = v) := ⟨_, Lib.hid rfl⟩
  have HF : Hid (tmakeD a b s n c = (powI a n 227, powI b n 227, c, v) ∧ tmakeB a b s n c = true) := Lib.hid (by
    have hb : tmakeB a b s n c = true := by simp [tmakeB, makeB, hab, hs, hn, hc]
    exact ⟨by unfold tmakeD; rw [if_pos hb, hv.out], hb⟩)
  simp only [Bool.and_eq_true] at hab
  obtain ⟨ha, hb⟩ := hab
  have aE := elB_range ha
  have a0 : 0 ≤ a := by omega
  have a1 : a ≤ 226 := by omega
  clear aE
  have bE := elB_range hb
  have b0 : 0 ≤ b := by omega
  have b1 : b ≤ 226 := by omega
  clear bE
  obtain ⟨s0, s1⟩ := (numB_iff s).1 hs
  obtain ⟨n0, n1⟩ := (numB_iff n).1 hn
  obtain ⟨c0, c1⟩ := (numB_iff c).1 hc
  clear ha hb hs hn hc
  obtain ⟨m0, m1⟩ := mul_bd c s c0 c1 s0 s1
  have w1_ : IntKind.i64.wrap (c * s) = c * s := IntWalk.i64_in _ (by omega)
  have w2_ : IntKind.i64.wrap (n + c * s) = n + c * s := IntWalk.i64_in _ (by omega)
  have w3_ : (n + c * s).tmod 113 = v := by rw [← hv.out]; exact Int.tmod_eq_emod_of_nonneg (by omega)
  have fc60 : w1.cell? ⟨w.heap.size, 0, none⟩ = some (.int .i64 a) := HX_base.out.cell 0
  have fc61 : w1.cell? ⟨w.heap.size, 1, none⟩ = some (.int .i64 b) := HX_base.out.cell 1
  have fc62 : w1.cell? ⟨(w.heap.size + 1), 0, none⟩ = some (.int .i64 0) := HX_R.out.cell 0
  have fc63 : w1.cell? ⟨(w.heap.size + 1), 1, none⟩ = some (.int .i64 0) := HX_R.out.cell 1
  have fc64 : w1.cell? ⟨(w.heap.size + 1), 2, none⟩ = some (.int .i64 0) := HX_R.out.cell 2
  have fc65 : w1.cell? ⟨(w.heap.size + 1), 3, none⟩ = some (.int .i64 0) := HX_R.out.cell 3
  go_wp2
  clear fc60 fc61 fc62 fc63 fc64 fc65
  have fc66 : w1.cell? ⟨w.heap.size, 0, none⟩ = some (.int .i64 a) := HX_base.out.cell 0
  have fc67 : w1.cell? ⟨w.heap.size, 1, none⟩ = some (.int .i64 b) := HX_base.out.cell 1
  have fc68 : w1.cell? ⟨(w.heap.size + 1), 0, none⟩ = some (.int .i64 0) := HX_R.out.cell 0
  have fc69 : w1.cell? ⟨(w.heap.size + 1), 1, none⟩ = some (.int .i64 0) := HX_R.out.cell 1
  have fc70 : w1.cell? ⟨(w.heap.size + 1), 2, none⟩ = some (.int .i64 0) := HX_R.out.cell 2
  have fc71 : w1.cell? ⟨(w.heap.size + 1), 3, none⟩ = some (.int .i64 0) := HX_R.out.cell 3
  have fz72 : w1.frozen? ⟨(w.heap.size + 1), 0, none⟩ = false := HX_R.out.free 0
  have fz73 : w1.frozen? ⟨(w.heap.size + 1), 1, none⟩ = false := HX_R.out.free 1
  have fz74 : w1.frozen? ⟨(w.heap.size + 1), 2, none⟩ = false := HX_R.out.free 2
  have fz75 : w1.frozen? ⟨(w.heap.size + 1), 3, none⟩ = false := HX_R.out.free 3
  go_still_tail 16, (by kernel_rfl)
  still_call (same14 (s_l1Pow a n _ a0 (by omega) n0 (by omega)))
  repeat still_step
  still_call (same14 (s_l1Pow b n _ b0 (by omega) n0 (by omega)))
  repeat still_step
  refine wpStill_nil ?_
  change wpList _ _ _ _ _ w1.drew
  go_wp2
  exact bodyPost_ret (v := .tuple #[.agg #[.int .i64 (powI a n 227), .int .i64 (powI b n 227), .int .i64 c, .int .i64 v], .bool true]) (resTw2 rfl rfl rfl (((((HX_R.out).set 0 (.int .i64 (powI a n 227))).set 1 (.int .i64 (powI b n 227))).set 2 (.int .i64 c)).set 3 (.int .i64 v))) rfl ⟨by rw [HF.out.1, HF.out.2], (by first | exact ((((HB.out).setCell (p := ⟨(w.heap.size + 1), 0, none⟩) (by first | exact Nat.le_refl _ | (simp only; omega)) _).setCell (p := ⟨(w.heap.size + 1), 1, none⟩) (by first | exact Nat.le_refl _ | (simp only; omega)) _).setCell (p := ⟨(w.heap.size + 1), 2, none⟩) (by first | exact Nat.le_refl _ | (simp only; omega)) _).setCell (p := ⟨(w.heap.size + 1), 3, none⟩) (by first | exact Nat.le_refl _ | (simp only; omega)) _ | exact (((((HB.out).setCell (p := ⟨(w.heap.size + 1), 0, none⟩) (by first | exact Nat.le_refl _ | (simp only; omega)) _).setCell (p := ⟨(w.heap.size + 1), 1, none⟩) (by first | exact Nat.le_refl _ | (simp only; omega)) _).setCell (p := ⟨(w.heap.size + 1), 2, none⟩) (by first | exact Nat.le_refl _ | (simp only; omega)) _).setCell (p := ⟨(w.heap.size + 1), 3, none⟩) (by first | exact Nat.le_refl _ | (simp only; omega)) _).drew)⟩

set_option maxHeartbeats 2000000 in
theorem X_s_TwinFeign (a b k l c r : Int) (w : World) :
    Calls Try.prog 55 #[.agg #[.int .i64 a, .int .i64 b], .agg #[.int .i64 k, .int .i64 l], .int .i64 c, .int .i64 r] w fun e w' => e = .returned (.tuple #[.agg #[.int .i64 ((tfeignD a b k l c r).1), .int .i64 ((tfeignD a b k l c r).2.1), .int .i64 ((tfeignD a b k l c r).2.2.1), .int .i64 ((tfeignD a b k l c r).2.2.2)], .bool (twinFB a b k l c r)]) ∧ Below w.heap.size w w' := by
  obtain ⟨W0, hW0⟩ : ∃ W, Hid ((((w.alloc (.cells #[.int .i64 a, .int .i64 b] 80)).alloc (.cells #[.int .i64 k, .int .i64 l] 80)).alloc (.cells #[.int .i64 0, .int .i64 0, .int .i64 0, .int .i64 0] 76)) = W) := ⟨_, Lib.hid rfl⟩
  have HB : Hid (Below w.heap.size w W0) := Lib.hid (by rw [← hW0.out]; exact (((Below.refl _ _).alloc (Nat.le_refl _) _).alloc (by simp only [World.size_alloc]; omega) _).alloc (by simp only [World.size_alloc]; omega) _)
  have z_0 : w.heap.size + 3 ≤ W0.heap.size := by rw [← hW0.out]; simp only [World.size_alloc]; omega
  have HX_base : Hid (Bx W0 (w.heap.size) #[.int .i64 a, .int .i64 b] 80) := Lib.hid (by rw [← hW0.out]; have := Bx.new w #[.int .i64 a, .int .i64 b] 80; exact ((this.alloc _).alloc _))
  have HX_key : Hid (Bx W0 (w.heap.size + 1) #[.int .i64 k, .int .i64 l] 80) := Lib.hid (by rw [← hW0.out]; have := Bx.new (w.alloc (.cells #[.int .i64 a, .int .i64 b] 80)) #[.int .i64 k, .int .i64 l] 80; simp only [World.size_alloc] at this; exact (this.alloc _))
  have HX_R : Hid (Bx W0 (w.heap.size + 2) #[.int .i64 0, .int .i64 0, .int .i64 0, .int .i64 0] 76) := Lib.hid (by rw [← hW0.out]; have := Bx.new ((w.alloc (.cells #[.int .i64 a, .int .i64 b] 80)).alloc (.cells #[.int .i64 k, .int .i64 l] 80)) #[.int .i64 0, .int .i64 0, .int .i64 0, .int .i64 0] 76; simp only [World.size_alloc] at this; exact this)
  go_enter Try.func55, Try.ntmps55
  go_wp2_with fail
  rw [hW0.out]
  clear hW0
  refine (s_l14Pair a b _).mono ?_
  rintro e w1 ⟨rfl, hb⟩
  have z1 : W0.heap.size ≤ w1.heap.size := hb.size
  replace HX_base := Lib.hid (HX_base.out.below hb HX_base.out.lt)
  replace HX_key := Lib.hid (HX_key.out.below hb HX_key.out.lt)
  replace HX_R := Lib.hid (HX_R.out.below hb HX_R.out.lt)
  replace HB := Lib.hid (HB.out.trans (hb.mono (by omega)))
  clear hb
  cases hab : (elB a && elB b)
  · have HF : Hid (tfeignD a b k l c r = (0, 0, 0, 0) ∧ twinFB a b k l c r = false) := Lib.hid (by 
      have hb : twinFB a b k l c r = false := by simp [twinFB, hab]
      exact ⟨by unfold tfeignD; rw [hb]; rfl, hb⟩)
    have fc2 : w1.cell? ⟨w.heap.size, 0, none⟩ = some (.int .i64 a) := HX_base.out.cell 0
    have fc3 : w1.cell? ⟨w.heap.size, 1, none⟩ = some (.int .i64 b) := HX_base.out.cell 1
    have fc4 : w1.cell? ⟨(w.heap.size + 1), 0, none⟩ = some (.int .i64 k) := HX_key.out.cell 0
    have fc5 : w1.cell? ⟨(w.heap.size + 1), 1, none⟩ = some (.int .i64 l) := HX_key.out.cell 1
    have fc6 : w1.cell? ⟨(w.heap.size + 2), 0, none⟩ = some (.int .i64 0) := HX_R.out.cell 0
    have fc7 : w1.cell? ⟨(w.heap.size + 2), 1, none⟩ = some (.int .i64 0) := HX_R.out.cell 1
    have fc8 : w1.cell? ⟨(w.heap.size + 2), 2, none⟩ = some (.int .i64 0) := HX_R.out.cell 2
    have fc9 : w1.cell? ⟨(w.heap.size + 2), 3, none⟩ = some (.int .i64 0) := HX_R.out.cell 3
    have fz10 : w1.frozen? ⟨(w.heap.size + 2), 0, none⟩ = false := HX_R.out.free 0
    have fz11 : w1.frozen? ⟨(w.heap.size + 2), 1, none⟩ = false := HX_R.out.free 1
    have fz12 : w1.frozen? ⟨(w.heap.size + 2), 2, none⟩ = false := HX_R.out.free 2
    have fz13 : w1.frozen? ⟨(w.heap.size + 2), 3, none⟩ = false := HX_R.out.free 3
    go_wp2
    exact bodyPost_ret (v := .tuple #[.agg #[.int .i64 0, .int .i64 0, .int .i64 0, .int .i64 0], .bool false]) (resTw2 rfl rfl rfl (((((HX_R.out).set 0 (.int .i64 0)).set 1 (.int .i64 0)).set 2 (.int .i64 0)).set 3 (.int .i64 0))) rfl ⟨by rw [HF.out.1, HF.out.2], (by first | exact ((((HB.out).setCell (p := ⟨(w.heap.size + 2), 0, none⟩) (by first | exact Nat.le_refl _ | (simp only; omega)) _).setCell (p := ⟨(w.heap.size + 2), 1, none⟩) (by first | exact Nat.le_refl _ | (simp only; omega)) _).setCell (p := ⟨(w.heap.size + 2), 2, none⟩) (by first | exact Nat.le_refl _ | (simp only; omega)) _).setCell (p := ⟨(w.heap.size + 2), 3, none⟩) (by first | exact Nat.le_refl _ | (simp only; omega)) _ | exact (((((HB.out).setCell (p := ⟨(w.heap.size + 2), 0, none⟩) (by first | exact Nat.le_refl _ | (simp only; omega)) _).setCell (p := ⟨(w.heap.size + 2), 1, none⟩) (by first | exact Nat.le_refl _ | (simp only; omega)) _).setCell (p := ⟨(w.heap.size + 2), 2, none⟩) (by first | exact Nat.le_refl _ | (simp only; omega)) _).setCell (p := ⟨(w.heap.size + 2), 3, none⟩) (by first | exact Nat.le_refl _ | (simp only; omega)) _).drew)⟩
  have fc14 : w1.cell? ⟨w.heap.size, 0, none⟩ = some (.int .i64 a) := HX_base.out.cell 0
  have fc15 : w1.cell? ⟨w.heap.size, 1, none⟩ = some (.int .i64 b) := HX_base.out.cell 1
  have fc16 : w1.cell? ⟨(w.heap.size + 1), 0, none⟩ = some (.int .i64 k) := HX_key.out.cell 0
  have fc17 : w1.cell? ⟨(w.heap.size + 1), 1, none⟩ = some (.int .i64 l) := HX_key.out.cell 1
  have fc18 : w1.cell? ⟨(w.heap.size + 2), 0, none⟩ = some (.int .i64 0) := HX_R.out.cell 0
  have fc19 : w1.cell? ⟨(w.heap.size + 2), 1, none⟩ = some (.int .i64 0) := HX_R.out.cell 1
  have fc20 : w1.cell? ⟨(w.heap.size + 2), 2, none⟩ = some (.int .i64 0) := HX_R.out.cell 2
  have fc21 : w1.cell? ⟨(w.heap.size + 2), 3, none⟩ = some (.int .i64 0) := HX_R.out.cell 3
  go_wp2_with fail
  clear fc14 fc15 fc16 fc17 fc18 fc19 fc20 fc21
  refine (s_l14Pair k l _).mono ?_
  rintro e w22 ⟨rfl, hb⟩
  have z22 : w1.heap.size ≤ w22.heap.size := hb.size
  replace HX_base := Lib.hid (HX_base.out.below hb HX_base.out.lt)
  replace HX_key := Lib.hid (HX_key.out.below hb HX_key.out.lt)
  replace HX_R := Lib.hid (HX_R.out.below hb HX_R.out.lt)
  replace HB := Lib.hid (HB.out.trans (hb.mono (by omega)))
  clear hb
  cases hkl : (elB k && elB l)
  · have HF : Hid (tfeignD a b k l c r = (0, 0, 0, 0) ∧ twinFB a b k l c r = false) := Lib.hid (by 
      have hb : twinFB a b k l c r = false := by simp [twinFB, hkl]
      exact ⟨by unfold tfeignD; rw [hb]; rfl, hb⟩)
    have fc23 : w22.cell? ⟨w.heap.size, 0, none⟩ = some (.int .i64 a) := HX_base.out.cell 0
    have fc24 : w22.cell? ⟨w.heap.size, 1, none⟩ = some (.int .i64 b) := HX_base.out.cell 1
    have fc25 : w22.cell? ⟨(w.heap.size + 1), 0, none⟩ = some (.int .i64 k) := HX_key.out.cell 0
    have fc26 : w22.cell? ⟨(w.heap.size + 1), 1, none⟩ = some (.int .i64 l) := HX_key.out.cell 1
    have fc27 : w22.cell? ⟨(w.heap.size + 2), 0, none⟩ = some (.int .i64 0) := HX_R.out.cell 0
    have fc28 : w22.cell? ⟨(w.heap.size + 2), 1, none⟩ = some (.int .i64 0) := HX_R.out.cell 1
    have fc29 : w22.cell? ⟨(w.heap.size + 2), 2, none⟩ = some (.int .i64 0) := HX_R.out.cell 2
    have fc30 : w22.cell? ⟨(w.heap.size + 2), 3, none⟩ = some (.int .i64 0) := HX_R.out.cell 3
    have fz31 : w22.frozen? ⟨(w.heap.size + 2), 0, none⟩ = false := HX_R.out.free 0
    have fz32 : w22.frozen? ⟨(w.heap.size + 2), 1, none⟩ = false := HX_R.out.free 1
    have fz33 : w22.frozen? ⟨(w.heap.size + 2), 2, none⟩ = false := HX_R.out.free 2
    have fz34 : w22.frozen? ⟨(w.heap.size + 2), 3, none⟩ = false := HX_R.out.free 3
    go_wp2
    exact bodyPost_ret (v := .tuple #[.agg #[.int .i64 0, .int .i64 0, .int .i64 0, .int .i64 0], .bool false]) (resTw2 rfl rfl rfl (((((HX_R.out).set 0 (.int .i64 0)).set 1 (.int .i64 0)).set 2 (.int .i64 0)).set 3 (.int .i64 0))) rfl ⟨by rw [HF.out.1, HF.out.2], (by first | exact ((((HB.out).setCell (p := ⟨(w.heap.size + 2), 0, none⟩) (by first | exact Nat.le_refl _ | (simp only; omega)) _).setCell (p := ⟨(w.heap.size + 2), 1, none⟩) (by first | exact Nat.le_refl _ | (simp only; omega)) _).setCell (p := ⟨(w.heap.size + 2), 2, none⟩) (by first | exact Nat.le_refl _ | (simp only; omega)) _).setCell (p := ⟨(w.heap.size + 2), 3, none⟩) (by first | exact Nat.le_refl _ | (simp only; omega)) _ | exact (((((HB.out).setCell (p := ⟨(w.heap.size + 2), 0, none⟩) (by first | exact Nat.le_refl _ | (simp only; omega)) _).setCell (p := ⟨(w.heap.size + 2), 1, none⟩) (by first | exact Nat.le_refl _ | (simp only; omega)) _).setCell (p := ⟨(w.heap.size + 2), 2, none⟩) (by first | exact Nat.le_refl _ | (simp only; omega)) _).setCell (p := ⟨(w.heap.size + 2), 3, none⟩) (by first | exact Nat.le_refl _ | (simp only; omega)) _).drew)⟩
  have fc35 : w22.cell? ⟨w.heap.size, 0, none⟩ = some (.int .i64 a) := HX_base.out.cell 0
  have fc36 : w22.cell? ⟨w.heap.size, 1, none⟩ = some (.int .i64 b) := HX_base.out.cell 1
  have fc37 : w22.cell? ⟨(w.heap.size + 1), 0, none⟩ = some (.int .i64 k) := HX_key.out.cell 0
  have fc38 : w22.cell? ⟨(w.heap.size + 1), 1, none⟩ = some (.int .i64 l) := HX_key.out.cell 1
  have fc39 : w22.cell? ⟨(w.heap.size + 2), 0, none⟩ = some (.int .i64 0) := HX_R.out.cell 0
  have fc40 : w22.cell? ⟨(w.heap.size + 2), 1, none⟩ = some (.int .i64 0) := HX_R.out.cell 1
  have fc41 : w22.cell? ⟨(w.heap.size + 2), 2, none⟩ = some (.int .i64 0) := HX_R.out.cell 2
  have fc42 : w22.cell? ⟨(w.heap.size + 2), 3, none⟩ = some (.int .i64 0) := HX_R.out.cell 3
  go_wp2_with fail
  clear fc35 fc36 fc37 fc38 fc39 fc40 fc41 fc42
  refine (s_NumOk _ _).mono ?_
  rintro e w' ⟨rfl, rfl⟩
  cases hc : numB c
  · have HF : Hid (tfeignD a b k l c r = (0, 0, 0, 0) ∧ twinFB a b k l c r = false) := Lib.hid (by 
      have hb : twinFB a b k l c r = false := by simp [twinFB, hc]
      exact ⟨by unfold tfeignD; rw [hb]; rfl, hb⟩)
    have fc43 : w22.cell? ⟨w.heap.size, 0, none⟩ = some (.int .i64 a) := HX_base.out.cell 0
    have fc44 : w22.cell? ⟨w.heap.size, 1, none⟩ = some (.int .i64 b) := HX_base.out.cell 1
    have fc45 : w22.cell? ⟨(w.heap.size + 1), 0, none⟩ = some (.int .i64 k) := HX_key.out.cell 0
    have fc46 : w22.cell? ⟨(w.heap.size + 1), 1, none⟩ = some (.int .i64 l) := HX_key.out.cell 1
    have fc47 : w22.cell? ⟨(w.heap.size + 2), 0, none⟩ = some (.int .i64 0) := HX_R.out.cell 0
    have fc48 : w22.cell? ⟨(w.heap.size + 2), 1, none⟩ = some (.int .i64 0) := HX_R.out.cell 1
    have fc49 : w22.cell? ⟨(w.heap.size + 2), 2, none⟩ = some (.int .i64 0) := HX_R.out.cell 2
    have fc50 : w22.cell? ⟨(w.heap.size + 2), 3, none⟩ = some (.int .i64 0) := HX_R.out.cell 3
    have fz51 : w22.frozen? ⟨(w.heap.size + 2), 0, none⟩ = false := HX_R.out.free 0
    have fz52 : w22.frozen? ⟨(w.heap.size + 2), 1, none⟩ = false := HX_R.out.free 1
    have fz53 : w22.frozen? ⟨(w.heap.size + 2), 2, none⟩ = false := HX_R.out.free 2
    have fz54 : w22.frozen? ⟨(w.heap.size + 2), 3, none⟩ = false := HX_R.out.free 3
    go_wp2
    exact bodyPost_ret (v := .tuple #[.agg #[.int .i64 0, .int .i64 0, .int .i64 0, .int .i64 0], .bool false]) (resTw2 rfl rfl rfl (((((HX_R.out).set 0 (.int .i64 0)).set 1 (.int .i64 0)).set 2 (.int .i64 0)).set 3 (.int .i64 0))) rfl ⟨by rw [HF.out.1, HF.out.2], (by first | exact ((((HB.out).setCell (p := ⟨(w.heap.size + 2), 0, none⟩) (by first | exact Nat.le_refl _ | (simp only; omega)) _).setCell (p := ⟨(w.heap.size + 2), 1, none⟩) (by first | exact Nat.le_refl _ | (simp only; omega)) _).setCell (p := ⟨(w.heap.size + 2), 2, none⟩) (by first | exact Nat.le_refl _ | (simp only; omega)) _).setCell (p := ⟨(w.heap.size + 2), 3, none⟩) (by first | exact Nat.le_refl _ | (simp only; omega)) _ | exact (((((HB.out).setCell (p := ⟨(w.heap.size + 2), 0, none⟩) (by first | exact Nat.le_refl _ | (simp only; omega)) _).setCell (p := ⟨(w.heap.size + 2), 1, none⟩) (by first | exact Nat.le_refl _ | (simp only; omega)) _).setCell (p := ⟨(w.heap.size + 2), 2, none⟩) (by first | exact Nat.le_refl _ | (simp only; omega)) _).setCell (p := ⟨(w.heap.size + 2), 3, none⟩) (by first | exact Nat.le_refl _ | (simp only; omega)) _).drew)⟩
  have fc55 : w22.cell? ⟨w.heap.size, 0, none⟩ = some (.int .i64 a) := HX_base.out.cell 0
  have fc56 : w22.cell? ⟨w.heap.size, 1, none⟩ = some (.int .i64 b) := HX_base.out.cell 1
  have fc57 : w22.cell? ⟨(w.heap.size + 1), 0, none⟩ = some (.int .i64 k) := HX_key.out.cell 0
  have fc58 : w22.cell? ⟨(w.heap.size + 1), 1, none⟩ = some (.int .i64 l) := HX_key.out.cell 1
  have fc59 : w22.cell? ⟨(w.heap.size + 2), 0, none⟩ = some (.int .i64 0) := HX_R.out.cell 0
  have fc60 : w22.cell? ⟨(w.heap.size + 2), 1, none⟩ = some (.int .i64 0) := HX_R.out.cell 1
  have fc61 : w22.cell? ⟨(w.heap.size + 2), 2, none⟩ = some (.int .i64 0) := HX_R.out.cell 2
  have fc62 : w22.cell? ⟨(w.heap.size + 2), 3, none⟩ = some (.int .i64 0) := HX_R.out.cell 3
  go_wp2_with fail
  clear fc55 fc56 fc57 fc58 fc59 fc60 fc61 fc62
  refine (s_NumOk _ _).mono ?_
  rintro e w' ⟨rfl, rfl⟩
  cases hr : numB r
  · have HF : Hid (tfeignD a b k l c r = (0, 0, 0, 0) ∧ twinFB a b k l c r = false) := Lib.hid (by 
      have hb : twinFB a b k l c r = false := by simp [twinFB, hr]
      exact ⟨by unfold tfeignD; rw [hb]; rfl, hb⟩)
    have fc63 : w22.cell? ⟨w.heap.size, 0, none⟩ = some (.int .i64 a) := HX_base.out.cell 0
    have fc64 : w22.cell? ⟨w.heap.size, 1, none⟩ = some (.int .i64 b) := HX_base.out.cell 1
    have fc65 : w22.cell? ⟨(w.heap.size + 1), 0, none⟩ = some (.int .i64 k) := HX_key.out.cell 0
    have fc66 : w22.cell? ⟨(w.heap.size + 1), 1, none⟩ = some (.int .i64 l) := HX_key.out.cell 1
    have fc67 : w22.cell? ⟨(w.heap.size + 2), 0, none⟩ = some (.int .i64 0) := HX_R.out.cell 0
    have fc68 : w22.cell? ⟨(w.heap.size + 2), 1, none⟩ = some (.int .i64 0) := HX_R.out.cell 1
    have fc69 : w22.cell? ⟨(w.heap.size + 2), 2, none⟩ = some (.int .i64 0) := HX_R.out.cell 2
    have fc70 : w22.cell? ⟨(w.heap.size + 2), 3, none⟩ = some (.int .i64 0) := HX_R.out.cell 3
    have fz71 : w22.frozen? ⟨(w.heap.size + 2), 0, none⟩ = false := HX_R.out.free 0
    have fz72 : w22.frozen? ⟨(w.heap.size + 2), 1, none⟩ = false := HX_R.out.free 1
    have fz73 : w22.frozen? ⟨(w.heap.size + 2), 2, none⟩ = false := HX_R.out.free 2
    have fz74 : w22.frozen? ⟨(w.heap.size + 2), 3, none⟩ = false := HX_R.out.free 3
    go_wp2
    exact bodyPost_ret (v := .tuple #[.agg #[.int .i64 0, .int .i64 0, .int .i64 0, .int .i64 0], .bool false]) (resTw2 rfl rfl rfl (((((HX_R.out).set 0 (.int .i64 0)).set 1 (.int .i64 0)).set 2 (.int .i64 0)).set 3 (.int .i64 0))) rfl ⟨by rw [HF.out.1, HF.out.2], (by first | exact ((((HB.out).setCell (p := ⟨(w.heap.size + 2), 0, none⟩) (by first | exact Nat.le_refl _ | (simp only; omega)) _).setCell (p := ⟨(w.heap.size + 2), 1, none⟩) (by first | exact Nat.le_refl _ | (simp only; omega)) _).setCell (p := ⟨(w.heap.size + 2), 2, none⟩) (by first | exact Nat.le_refl _ | (simp only; omega)) _).setCell (p := ⟨(w.heap.size + 2), 3, none⟩) (by first | exact Nat.le_refl _ | (simp only; omega)) _ | exact (((((HB.out).setCell (p := ⟨(w.heap.size + 2), 0, none⟩) (by first | exact Nat.le_refl _ | (simp only; omega)) _).setCell (p := ⟨(w.heap.size + 2), 1, none⟩) (by first | exact Nat.le_refl _ | (simp only; omega)) _).setCell (p := ⟨(w.heap.size + 2), 2, none⟩) (by first | exact Nat.le_refl _ | (simp only; omega)) _).setCell (p := ⟨(w.heap.size + 2), 3, none⟩) (by first | exact Nat.le_refl _ | (simp only; omega)) _).drew)⟩
  have hcr : (numB c && numB r) = true := by rw [hc, hr]; rfl
  clear hc hr
  obtain ⟨u, hu⟩ : ∃ u, Hid (backI a k r c = u) := ⟨_, Lib.hid rfl⟩
  obtain ⟨v, hv⟩ : ∃ v, Hid (backI b l r c = v) := ⟨_, Lib.hid rfl⟩
  have HF : Hid (tfeignD a b k l c r = (u, v, c, r) ∧ twinFB a b k l c r = true) := Lib.hid (by
    have hb : twinFB a b k l c r = true := by simp only [twinFB, hab, hkl, hcr]; rfl
    exact ⟨by unfold tfeignD; rw [if_pos hb, hu.out, hv.out], hb⟩)
  simp only [Bool.and_eq_true] at hab hkl hcr
  obtain ⟨ha, hb⟩ := hab
  obtain ⟨hk, hl⟩ := hkl
  obtain ⟨hc, hr⟩ := hcr
  have aE := elB_range ha
  have a0 : 0 ≤ a := by omega
  have a1 : a ≤ 226 := by omega
  clear aE
  have bE := elB_range hb
  have b0 : 0 ≤ b := by omega
  have b1 : b ≤ 226 := by omega
  clear bE
  have kE := elB_range hk
  have k0 : 0 ≤ k := by omega
  have k1 : k ≤ 226 := by omega
  clear kE
  have lE := elB_range hl
  have l0 : 0 ≤ l := by omega
  have l1 : l ≤ 226 := by omega
  clear lE
  obtain ⟨c0, c1⟩ := (numB_iff c).1 hc
  obtain ⟨r0, r1⟩ := (numB_iff r).1 hr
  clear ha hb hk hl hc hr
  have H_u : ∀ W : World, Hid (Calls Try.prog 83 #[.int .i64 a, .int .i64 r, .int .i64 k, .int .i64 c] W fun e w' => e = .returned (.int .i64 u) ∧ W = w') := fun W => Lib.hid (by rw [← hu.out]; exact s_l14Back a k r c W ⟨a0, a1⟩ ⟨k0, k1⟩ ⟨r0, r1⟩ ⟨c0, c1⟩)
  have H_v : ∀ W : World, Hid (Calls Try.prog 83 #[.int .i64 b, .int .i64 r, .int .i64 l, .int .i64 c] W fun e w' => e = .returned (.int .i64 v) ∧ W = w') := fun W => Lib.hid (by rw [← hv.out]; exact s_l14Back b l r c W ⟨b0, b1⟩ ⟨l0, l1⟩ ⟨r0, r1⟩ ⟨c0, c1⟩)
  have fc75 : w22.cell? ⟨w.heap.size, 0, none⟩ = some (.int .i64 a) := HX_base.out.cell 0
  have fc76 : w22.cell? ⟨w.heap.size, 1, none⟩ = some (.int .i64 b) := HX_base.out.cell 1
  have fc77 : w22.cell? ⟨(w.heap.size + 1), 0, none⟩ = some (.int .i64 k) := HX_key.out.cell 0
  have fc78 : w22.cell? ⟨(w.heap.size + 1), 1, none⟩ = some (.int .i64 l) := HX_key.out.cell 1
  have fc79 : w22.cell? ⟨(w.heap.size + 2), 0, none⟩ = some (.int .i64 0) := HX_R.out.cell 0
  have fc80 : w22.cell? ⟨(w.heap.size + 2), 1, none⟩ = some (.int .i64 0) := HX_R.out.cell 1
  have fc81 : w22.cell? ⟨(w.heap.size + 2), 2, none⟩ = some (.int .i64 0) := HX_R.out.cell 2
  have fc82 : w22.cell? ⟨(w.heap.size + 2), 3, none⟩ = some (.int .i64 0) := HX_R.out.cell 3
  go_wp2
  clear fc75 fc76 fc77 fc78 fc79 fc80 fc81 fc82
  have fc83 : w22.cell? ⟨w.heap.size, 0, none⟩ = some (.int .i64 a) := HX_base.out.cell 0
  have fc84 : w22.cell? ⟨w.heap.size, 1, none⟩ = some (.int .i64 b) := HX_base.out.cell 1
  have fc85 : w22.cell? ⟨(w.heap.size + 1), 0, none⟩ = some (.int .i64 k) := HX_key.out.cell 0
  have fc86 : w22.cell? ⟨(w.heap.size + 1), 1, none⟩ = some (.int .i64 l) := HX_key.out.cell 1
  have fc87 : w22.cell? ⟨(w.heap.size + 2), 0, none⟩ = some (.int .i64 0) := HX_R.out.cell 0
  have fc88 : w22.cell? ⟨(w.heap.size + 2), 1, none⟩ = some (.int .i64 0) := HX_R.out.cell 1
  have fc89 : w22.cell? ⟨(w.heap.size + 2), 2, none⟩ = some (.int .i64 0) := HX_R.out.cell 2
  have fc90 : w22.cell? ⟨(w.heap.size + 2), 3, none⟩ = some (.int .i64 0) := HX_R.out.cell 3
  have fz91 : w22.frozen? ⟨(w.heap.size + 2), 0, none⟩ = false := HX_R.out.free 0
  have fz92 : w22.frozen? ⟨(w.heap.size + 2), 1, none⟩ = false := HX_R.out.free 1
  have fz93 : w22.frozen? ⟨(w.heap.size + 2), 2, none⟩ = false := HX_R.out.free 2
  have fz94 : w22.frozen? ⟨(w.heap.size + 2), 3, none⟩ = false := HX_R.out.free 3
  go_still_tail 17, (by kernel_rfl)
  still_call (same14 (H_u _).out)
  repeat still_step
  still_call (same14 (H_v _).out)
  repeat still_step
  refine wpStill_nil ?_
  change wpList _ _ _ _ _ w22.drew
  go_wp2
  exact bodyPost_ret (v := .tuple #[.agg #[.int .i64 u, .int .i64 v, .int .i64 c, .int .i64 r], .bool true]) (resTw2 rfl rfl rfl (((((HX_R.out).set 0 (.int .i64 u)).set 1 (.int .i64 v)).set 2 (.int .i64 c)).set 3 (.int .i64 r))) rfl ⟨by rw [HF.out.1, HF.out.2], (by first | exact ((((HB.out).setCell (p := ⟨(w.heap.size + 2), 0, none⟩) (by first | exact Nat.le_refl _ | (simp only; omega)) _).setCell (p := ⟨(w.heap.size + 2), 1, none⟩) (by first | exact Nat.le_refl _ | (simp only; omega)) _).setCell (p := ⟨(w.heap.size + 2), 2, none⟩) (by first | exact Nat.le_refl _ | (simp only; omega)) _).setCell (p := ⟨(w.heap.size + 2), 3, none⟩) (by first | exact Nat.le_refl _ | (simp only; omega)) _ | exact (((((HB.out).setCell (p := ⟨(w.heap.size + 2), 0, none⟩) (by first | exact Nat.le_refl _ | (simp only; omega)) _).setCell (p := ⟨(w.heap.size + 2), 1, none⟩) (by first | exact Nat.le_refl _ | (simp only; omega)) _).setCell (p := ⟨(w.heap.size + 2), 2, none⟩) (by first | exact Nat.le_refl _ | (simp only; omega)) _).setCell (p := ⟨(w.heap.size + 2), 3, none⟩) (by first | exact Nat.le_refl _ | (simp only; omega)) _).drew)⟩

set_option maxHeartbeats 2000000 in
theorem X_i_TwinFeign (a b k l c r : Int) (w : World) :
    Calls Try.prog 108 #[.agg #[.int .i64 a, .int .i64 b], .agg #[.int .i64 k, .int .i64 l], .int .i64 c, .int .i64 r] w fun e w' => e = .returned (.tuple #[.agg #[.int .i64 ((tfeignD a b k l c r).1), .int .i64 ((tfeignD a b k l c r).2.1), .int .i64 ((tfeignD a b k l c r).2.2.1), .int .i64 ((tfeignD a b k l c r).2.2.2)], .bool (twinFB a b k l c r)]) ∧ Below w.heap.size w w' := by
  obtain ⟨W0, hW0⟩ : ∃ W, Hid (((((w.alloc (.cells #[.int .i64 a, .int .i64 b] 80)).alloc (.cells #[.int .i64 k, .int .i64 l] 80)).alloc (.cells #[.int .i64 0, .int .i64 0, .int .i64 0, .int .i64 0] 76)).alloc (.cells #[.int .i64 c, .int .i64 r] 64)) = W) := ⟨_, Lib.hid rfl⟩
  have HB : Hid (Below w.heap.size w W0) := Lib.hid (by rw [← hW0.out]; exact ((((Below.refl _ _).alloc (Nat.le_refl _) _).alloc (by simp only [World.size_alloc]; omega) _).alloc (by simp only [World.size_alloc]; omega) _).alloc (by simp only [World.size_alloc]; omega) _)
  have z_0 : w.heap.size + 4 ≤ W0.heap.size := by rw [← hW0.out]; simp only [World.size_alloc]; omega
  have HX_base : Hid (Bx W0 (w.heap.size) #[.int .i64 a, .int .i64 b] 80) := Lib.hid (by rw [← hW0.out]; have := Bx.new w #[.int .i64 a, .int .i64 b] 80; exact (((this.alloc _).alloc _).alloc _))
  have HX_key : Hid (Bx W0 (w.heap.size + 1) #[.int .i64 k, .int .i64 l] 80) := Lib.hid (by rw [← hW0.out]; have := Bx.new (w.alloc (.cells #[.int .i64 a, .int .i64 b] 80)) #[.int .i64 k, .int .i64 l] 80; simp only [World.size_alloc] at this; exact ((this.alloc _).alloc _))
  have HX_R : Hid (Bx W0 (w.heap.size + 2) #[.int .i64 0, .int .i64 0, .int .i64 0, .int .i64 0] 76) := Lib.hid (by rw [← hW0.out]; have := Bx.new ((w.alloc (.cells #[.int .i64 a, .int .i64 b] 80)).alloc (.cells #[.int .i64 k, .int .i64 l] 80)) #[.int .i64 0, .int .i64 0, .int .i64 0, .int .i64 0] 76; simp only [World.size_alloc] at this; exact (this.alloc _))
  have HX_an : Hid (Bx W0 (w.heap.size + 3) #[.int .i64 c, .int .i64 r] 64) := Lib.hid (by rw [← hW0.out]; have := Bx.new (((w.alloc (.cells #[.int .i64 a, .int .i64 b] 80)).alloc (.cells #[.int .i64 k, .int .i64 l] 80)).alloc (.cells #[.int .i64 0, .int .i64 0, .int .i64 0, .int .i64 0] 76)) #[.int .i64 c, .int .i64 r] 64; simp only [World.size_alloc] at this; exact this)
  go_enter Try.func108, Try.ntmps108
  go_wp2_with fail
  rw [hW0.out]
  clear hW0
  refine (i_pair_ok a b _).mono ?_
  rintro e w1 ⟨rfl, hb⟩
  have z1 : W0.heap.size ≤ w1.heap.size := hb.size
  replace HX_base := Lib.hid (HX_base.out.below hb HX_base.out.lt)
  replace HX_key := Lib.hid (HX_key.out.below hb HX_key.out.lt)
  replace HX_R := Lib.hid (HX_R.out.below hb HX_R.out.lt)
  replace HX_an := Lib.hid (HX_an.out.below hb HX_an.out.lt)
  replace HB := Lib.hid (HB.out.trans (hb.mono (by omega)))
  clear hb
  cases hab : (elB a && elB b)
  · have HF : Hid (tfeignD a b k l c r = (0, 0, 0, 0) ∧ twinFB a b k l c r = false) := Lib.hid (by 
      have hb : twinFB a b k l c r = false := by simp [twinFB, hab]
      exact ⟨by unfold tfeignD; rw [hb]; rfl, hb⟩)
    have fc2 : w1.cell? ⟨w.heap.size, 0, none⟩ = some (.int .i64 a) := HX_base.out.cell 0
    have fc3 : w1.cell? ⟨w.heap.size, 1, none⟩ = some (.int .i64 b) := HX_base.out.cell 1
    have fc4 : w1.cell? ⟨(w.heap.size + 1), 0, none⟩ = some (.int .i64 k) := HX_key.out.cell 0
    have fc5 : w1.cell? ⟨(w.heap.size + 1), 1, none⟩ = some (.int .i64 l) := HX_key.out.cell 1
    have fc6 : w1.cell? ⟨(w.heap.size + 2), 0, none⟩ = some (.int .i64 0) := HX_R.out.cell 0
    have fc7 : w1.cell? ⟨(w.heap.size + 2), 1, none⟩ = some (.int .i64 0) := HX_R.out.cell 1
    have fc8 : w1.cell? ⟨(w.heap.size + 2), 2, none⟩ = some (.int .i64 0) := HX_R.out.cell 2
    have fc9 : w1.cell? ⟨(w.heap.size + 2), 3, none⟩ = some (.int .i64 0) := HX_R.out.cell 3
    have fc10 : w1.cell? ⟨(w.heap.size + 3), 0, none⟩ = some (.int .i64 c) := HX_an.out.cell 0
    have fc11 : w1.cell? ⟨(w.heap.size + 3), 1, none⟩ = some (.int .i64 r) := HX_an.out.cell 1
    have fz12 : w1.frozen? ⟨(w.heap.size + 2), 0, none⟩ = false := HX_R.out.free 0
    have fz13 : w1.frozen? ⟨(w.heap.size + 2), 1, none⟩ = false := HX_R.out.free 1
    have fz14 : w1.frozen? ⟨(w.heap.size + 2), 2, none⟩ = false := HX_R.out.free 2
    have fz15 : w1.frozen? ⟨(w.heap.size + 2), 3, none⟩ = false := HX_R.out.free 3
    go_wp2
    exact bodyPost_ret (v := .tuple #[.agg #[.int .i64 0, .int .i64 0, .int .i64 0, .int .i64 0], .bool false]) (resTw2 rfl rfl rfl (((((HX_R.out).set 0 (.int .i64 0)).set 1 (.int .i64 0)).set 2 (.int .i64 0)).set 3 (.int .i64 0))) rfl ⟨by rw [HF.out.1, HF.out.2], (by first | exact ((((HB.out).setCell (p := ⟨(w.heap.size + 2), 0, none⟩) (by first | exact Nat.le_refl _ | (simp only; omega)) _).setCell (p := ⟨(w.heap.size + 2), 1, none⟩) (by first | exact Nat.le_refl _ | (simp only; omega)) _).setCell (p := ⟨(w.heap.size + 2), 2, none⟩) (by first | exact Nat.le_refl _ | (simp only; omega)) _).setCell (p := ⟨(w.heap.size + 2), 3, none⟩) (by first | exact Nat.le_refl _ | (simp only; omega)) _ | exact (((((HB.out).setCell (p := ⟨(w.heap.size + 2), 0, none⟩) (by first | exact Nat.le_refl _ | (simp only; omega)) _).setCell (p := ⟨(w.heap.size + 2), 1, none⟩) (by first | exact Nat.le_refl _ | (simp only; omega)) _).setCell (p := ⟨(w.heap.size + 2), 2, none⟩) (by first | exact Nat.le_refl _ | (simp only; omega)) _).setCell (p := ⟨(w.heap.size + 2), 3, none⟩) (by first | exact Nat.le_refl _ | (simp only; omega)) _).drew)⟩
  have fc16 : w1.cell? ⟨w.heap.size, 0, none⟩ = some (.int .i64 a) := HX_base.out.cell 0
  have fc17 : w1.cell? ⟨w.heap.size, 1, none⟩ = some (.int .i64 b) := HX_base.out.cell 1
  have fc18 : w1.cell? ⟨(w.heap.size + 1), 0, none⟩ = some (.int .i64 k) := HX_key.out.cell 0
  have fc19 : w1.cell? ⟨(w.heap.size + 1), 1, none⟩ = some (.int .i64 l) := HX_key.out.cell 1
  have fc20 : w1.cell? ⟨(w.heap.size + 2), 0, none⟩ = some (.int .i64 0) := HX_R.out.cell 0
  have fc21 : w1.cell? ⟨(w.heap.size + 2), 1, none⟩ = some (.int .i64 0) := HX_R.out.cell 1
  have fc22 : w1.cell? ⟨(w.heap.size + 2), 2, none⟩ = some (.int .i64 0) := HX_R.out.cell 2
  have fc23 : w1.cell? ⟨(w.heap.size + 2), 3, none⟩ = some (.int .i64 0) := HX_R.out.cell 3
  have fc24 : w1.cell? ⟨(w.heap.size + 3), 0, none⟩ = some (.int .i64 c) := HX_an.out.cell 0
  have fc25 : w1.cell? ⟨(w.heap.size + 3), 1, none⟩ = some (.int .i64 r) := HX_an.out.cell 1
  go_wp2_with fail
  clear fc16 fc17 fc18 fc19 fc20 fc21 fc22 fc23 fc24 fc25
  refine (i_pair_ok k l _).mono ?_
  rintro e w26 ⟨rfl, hb⟩
  have z26 : w1.heap.size ≤ w26.heap.size := hb.size
  replace HX_base := Lib.hid (HX_base.out.below hb HX_base.out.lt)
  replace HX_key := Lib.hid (HX_key.out.below hb HX_key.out.lt)
  replace HX_R := Lib.hid (HX_R.out.below hb HX_R.out.lt)
  replace HX_an := Lib.hid (HX_an.out.below hb HX_an.out.lt)
  replace HB := Lib.hid (HB.out.trans (hb.mono (by omega)))
  clear hb
  cases hkl : (elB k && elB l)
  · have HF : Hid (tfeignD a b k l c r = (0, 0, 0, 0) ∧ twinFB a b k l c r = false) := Lib.hid (by 
      have hb : twinFB a b k l c r = false := by simp [twinFB, hkl]
      exact ⟨by unfold tfeignD; rw [hb]; rfl, hb⟩)
    have fc27 : w26.cell? ⟨w.heap.size, 0, none⟩ = some (.int .i64 a) := HX_base.out.cell 0
    have fc28 : w26.cell? ⟨w.heap.size, 1, none⟩ = some (.int .i64 b) := HX_base.out.cell 1
    have fc29 : w26.cell? ⟨(w.heap.size + 1), 0, none⟩ = some (.int .i64 k) := HX_key.out.cell 0
    have fc30 : w26.cell? ⟨(w.heap.size + 1), 1, none⟩ = some (.int .i64 l) := HX_key.out.cell 1
    have fc31 : w26.cell? ⟨(w.heap.size + 2), 0, none⟩ = some (.int .i64 0) := HX_R.out.cell 0
    have fc32 : w26.cell? ⟨(w.heap.size + 2), 1, none⟩ = some (.int .i64 0) := HX_R.out.cell 1
    have fc33 : w26.cell? ⟨(w.heap.size + 2), 2, none⟩ = some (.int .i64 0) := HX_R.out.cell 2
    have fc34 : w26.cell? ⟨(w.heap.size + 2), 3, none⟩ = some (.int .i64 0) := HX_R.out.cell 3
    have fc35 : w26.cell? ⟨(w.heap.size + 3), 0, none⟩ = some (.int .i64 c) := HX_an.out.cell 0
    have fc36 : w26.cell? ⟨(w.heap.size + 3), 1, none⟩ = some (.int .i64 r) := HX_an.out.cell 1
    have fz37 : w26.frozen? ⟨(w.heap.size + 2), 0, none⟩ = false := HX_R.out.free 0
    have fz38 : w26.frozen? ⟨(w.heap.size + 2), 1, none⟩ = false := HX_R.out.free 1
    have fz39 : w26.frozen? ⟨(w.heap.size + 2), 2, none⟩ = false := HX_R.out.free 2
    have fz40 : w26.frozen? ⟨(w.heap.size + 2), 3, none⟩ = false := HX_R.out.free 3
    go_wp2
    exact bodyPost_ret (v := .tuple #[.agg #[.int .i64 0, .int .i64 0, .int .i64 0, .int .i64 0], .bool false]) (resTw2 rfl rfl rfl (((((HX_R.out).set 0 (.int .i64 0)).set 1 (.int .i64 0)).set 2 (.int .i64 0)).set 3 (.int .i64 0))) rfl ⟨by rw [HF.out.1, HF.out.2], (by first | exact ((((HB.out).setCell (p := ⟨(w.heap.size + 2), 0, none⟩) (by first | exact Nat.le_refl _ | (simp only; omega)) _).setCell (p := ⟨(w.heap.size + 2), 1, none⟩) (by first | exact Nat.le_refl _ | (simp only; omega)) _).setCell (p := ⟨(w.heap.size + 2), 2, none⟩) (by first | exact Nat.le_refl _ | (simp only; omega)) _).setCell (p := ⟨(w.heap.size + 2), 3, none⟩) (by first | exact Nat.le_refl _ | (simp only; omega)) _ | exact (((((HB.out).setCell (p := ⟨(w.heap.size + 2), 0, none⟩) (by first | exact Nat.le_refl _ | (simp only; omega)) _).setCell (p := ⟨(w.heap.size + 2), 1, none⟩) (by first | exact Nat.le_refl _ | (simp only; omega)) _).setCell (p := ⟨(w.heap.size + 2), 2, none⟩) (by first | exact Nat.le_refl _ | (simp only; omega)) _).setCell (p := ⟨(w.heap.size + 2), 3, none⟩) (by first | exact Nat.le_refl _ | (simp only; omega)) _).drew)⟩
  have fc41 : w26.cell? ⟨w.heap.size, 0, none⟩ = some (.int .i64 a) := HX_base.out.cell 0
  have fc42 : w26.cell? ⟨w.heap.size, 1, none⟩ = some (.int .i64 b) := HX_base.out.cell 1
  have fc43 : w26.cell? ⟨(w.heap.size + 1), 0, none⟩ = some (.int .i64 k) := HX_key.out.cell 0
  have fc44 : w26.cell? ⟨(w.heap.size + 1), 1, none⟩ = some (.int .i64 l) := HX_key.out.cell 1
  have fc45 : w26.cell? ⟨(w.heap.size + 2), 0, none⟩ = some (.int .i64 0) := HX_R.out.cell 0
  have fc46 : w26.cell? ⟨(w.heap.size + 2), 1, none⟩ = some (.int .i64 0) := HX_R.out.cell 1
  have fc47 : w26.cell? ⟨(w.heap.size + 2), 2, none⟩ = some (.int .i64 0) := HX_R.out.cell 2
  have fc48 : w26.cell? ⟨(w.heap.size + 2), 3, none⟩ = some (.int .i64 0) := HX_R.out.cell 3
  have fc49 : w26.cell? ⟨(w.heap.size + 3), 0, none⟩ = some (.int .i64 c) := HX_an.out.cell 0
  have fc50 : w26.cell? ⟨(w.heap.size + 3), 1, none⟩ = some (.int .i64 r) := HX_an.out.cell 1
  go_wp2_with fail
  clear fc41 fc42 fc43 fc44 fc45 fc46 fc47 fc48 fc49 fc50
  refine (i_an_ok c r _).mono ?_
  rintro e w51 ⟨rfl, hb⟩
  have z51 : w26.heap.size ≤ w51.heap.size := hb.size
  replace HX_base := Lib.hid (HX_base.out.below hb HX_base.out.lt)
  replace HX_key := Lib.hid (HX_key.out.below hb HX_key.out.lt)
  replace HX_R := Lib.hid (HX_R.out.below hb HX_R.out.lt)
  replace HX_an := Lib.hid (HX_an.out.below hb HX_an.out.lt)
  replace HB := Lib.hid (HB.out.trans (hb.mono (by omega)))
  clear hb
  cases hcr : (numB c && numB r)
  · have HF : Hid (tfeignD a b k l c r = (0, 0, 0, 0) ∧ twinFB a b k l c r = false) := Lib.hid (by 
      have hb : twinFB a b k l c r = false := by unfold twinFB; rw [hcr]; simp
      exact ⟨by unfold tfeignD; rw [hb]; rfl, hb⟩)
    have fc52 : w51.cell? ⟨w.heap.size, 0, none⟩ = some (.int .i64 a) := HX_base.out.cell 0
    have fc53 : w51.cell? ⟨w.heap.size, 1, none⟩ = some (.int .i64 b) := HX_base.out.cell 1
    have fc54 : w51.cell? ⟨(w.heap.size + 1), 0, none⟩ = some (.int .i64 k) := HX_key.out.cell 0
    have fc55 : w51.cell? ⟨(w.heap.size + 1), 1, none⟩ = some (.int .i64 l) := HX_key.out.cell 1
    have fc56 : w51.cell? ⟨(w.heap.size + 2), 0, none⟩ = some (.int .i64 0) := HX_R.out.cell 0
    have fc57 : w51.cell? ⟨(w.heap.size + 2), 1, none⟩ = some (.int .i64 0) := HX_R.out.cell 1
    have fc58 : w51.cell? ⟨(w.heap.size + 2), 2, none⟩ = some (.int .i64 0) := HX_R.out.cell 2
    have fc59 : w51.cell? ⟨(w.heap.size + 2), 3, none⟩ = some (.int .i64 0) := HX_R.out.cell 3
    have fc60 : w51.cell? ⟨(w.heap.size + 3), 0, none⟩ = some (.int .i64 c) := HX_an.out.cell 0
    have fc61 : w51.cell? ⟨(w.heap.size + 3), 1, none⟩ = some (.int .i64 r) := HX_an.out.cell 1
    have fz62 : w51.frozen? ⟨(w.heap.size + 2), 0, none⟩ = false := HX_R.out.free 0
    have fz63 : w51.frozen? ⟨(w.heap.size + 2), 1, none⟩ = false := HX_R.out.free 1
    have fz64 : w51.frozen? ⟨(w.heap.size + 2), 2, none⟩ = false := HX_R.out.free 2
    have fz65 : w51.frozen? ⟨(w.heap.size + 2), 3, none⟩ = false := HX_R.out.free 3
    go_wp2
    exact bodyPost_ret (v := .tuple #[.agg #[.int .i64 0, .int .i64 0, .int .i64 0, .int .i64 0], .bool false]) (resTw2 rfl rfl rfl (((((HX_R.out).set 0 (.int .i64 0)).set 1 (.int .i64 0)).set 2 (.int .i64 0)).set 3 (.int .i64 0))) rfl ⟨by rw [HF.out.1, HF.out.2], (by first | exact ((((HB.out).setCell (p := ⟨(w.heap.size + 2), 0, none⟩) (by first | exact Nat.le_refl _ | (simp only; omega)) _).setCell (p := ⟨(w.heap.size + 2), 1, none⟩) (by first | exact Nat.le_refl _ | (simp only; omega)) _).setCell (p := ⟨(w.heap.size + 2), 2, none⟩) (by first | exact Nat.le_refl _ | (simp only; omega)) _).setCell (p := ⟨(w.heap.size + 2), 3, none⟩) (by first | exact Nat.le_refl _ | (simp only; omega)) _ | exact (((((HB.out).setCell (p := ⟨(w.heap.size + 2), 0, none⟩) (by first | exact Nat.le_refl _ | (simp only; omega)) _).setCell (p := ⟨(w.heap.size + 2), 1, none⟩) (by first | exact Nat.le_refl _ | (simp only; omega)) _).setCell (p := ⟨(w.heap.size + 2), 2, none⟩) (by first | exact Nat.le_refl _ | (simp only; omega)) _).setCell (p := ⟨(w.heap.size + 2), 3, none⟩) (by first | exact Nat.le_refl _ | (simp only; omega)) _).drew)⟩
  obtain ⟨u, hu⟩ : ∃ u, Hid (backI a k r c = u) := ⟨_, Lib.hid rfl⟩
  obtain ⟨v, hv⟩ : ∃ v, Hid (backI b l r c = v) := ⟨_, Lib.hid rfl⟩
  have HF : Hid (tfeignD a b k l c r = (u, v, c, r) ∧ twinFB a b k l c r = true) := Lib.hid (by
    have hb : twinFB a b k l c r = true := by simp only [twinFB, hab, hkl, hcr]; rfl
    exact ⟨by unfold tfeignD; rw [if_pos hb, hu.out, hv.out], hb⟩)
  simp only [Bool.and_eq_true] at hab hkl hcr
  obtain ⟨ha, hb⟩ := hab
  obtain ⟨hk, hl⟩ := hkl
  obtain ⟨hc, hr⟩ := hcr
  have aE := elB_range ha
  have a0 : 0 ≤ a := by omega
  have a1 : a ≤ 226 := by omega
  clear aE
  have bE := elB_range hb
  have b0 : 0 ≤ b := by omega
  have b1 : b ≤ 226 := by omega
  clear bE
  have kE := elB_range hk
  have k0 : 0 ≤ k := by omega
  have k1 : k ≤ 226 := by omega
  clear kE
  have lE := elB_range hl
  have l0 : 0 ≤ l := by omega
  have l1 : l ≤ 226 := by omega
  clear lE
  obtain ⟨c0, c1⟩ := (numB_iff c).1 hc
  obtain ⟨r0, r1⟩ := (numB_iff r).1 hr
  clear ha hb hk hl hc hr
  have fc66 : w51.cell? ⟨w.heap.size, 0, none⟩ = some (.int .i64 a) := HX_base.out.cell 0
  have fc67 : w51.cell? ⟨w.heap.size, 1, none⟩ = some (.int .i64 b) := HX_base.out.cell 1
  have fc68 : w51.cell? ⟨(w.heap.size + 1), 0, none⟩ = some (.int .i64 k) := HX_key.out.cell 0
  have fc69 : w51.cell? ⟨(w.heap.size + 1), 1, none⟩ = some (.int .i64 l) := HX_key.out.cell 1
  have fc70 : w51.cell? ⟨(w.heap.size + 2), 0, none⟩ = some (.int .i64 0) := HX_R.out.cell 0
  have fc71 : w51.cell? ⟨(w.heap.size + 2), 1, none⟩ = some (.int .i64 0) := HX_R.out.cell 1
  have fc72 : w51.cell? ⟨(w.heap.size + 2), 2, none⟩ = some (.int .i64 0) := HX_R.out.cell 2
  have fc73 : w51.cell? ⟨(w.heap.size + 2), 3, none⟩ = some (.int .i64 0) := HX_R.out.cell 3
  have fc74 : w51.cell? ⟨(w.heap.size + 3), 0, none⟩ = some (.int .i64 c) := HX_an.out.cell 0
  have fc75 : w51.cell? ⟨(w.heap.size + 3), 1, none⟩ = some (.int .i64 r) := HX_an.out.cell 1
  go_wp2_with fail
  clear fc66 fc67 fc68 fc69 fc70 fc71 fc72 fc73 fc74 fc75
  refine (i_an_twin c r a b k l _ c0 c1 r0 r1 a0 a1 b0 b1 k0 k1 l0 l1).mono ?_
  rintro e w76 ⟨rfl, hb⟩
  have z76 : w51.heap.size ≤ w76.heap.size := hb.size
  replace HX_base := Lib.hid (HX_base.out.below hb HX_base.out.lt)
  replace HX_key := Lib.hid (HX_key.out.below hb HX_key.out.lt)
  replace HX_R := Lib.hid (HX_R.out.below hb HX_R.out.lt)
  replace HX_an := Lib.hid (HX_an.out.below hb HX_an.out.lt)
  replace HB := Lib.hid (HB.out.trans (hb.mono (by omega)))
  clear hb
  rw [hu.out, hv.out]
  have fc77 : w76.cell? ⟨w.heap.size, 0, none⟩ = some (.int .i64 a) := HX_base.out.cell 0
  have fc78 : w76.cell? ⟨w.heap.size, 1, none⟩ = some (.int .i64 b) := HX_base.out.cell 1
  have fc79 : w76.cell? ⟨(w.heap.size + 1), 0, none⟩ = some (.int .i64 k) := HX_key.out.cell 0
  have fc80 : w76.cell? ⟨(w.heap.size + 1), 1, none⟩ = some (.int .i64 l) := HX_key.out.cell 1
  have fc81 : w76.cell? ⟨(w.heap.size + 2), 0, none⟩ = some (.int .i64 0) := HX_R.out.cell 0
  have fc82 : w76.cell? ⟨(w.heap.size + 2), 1, none⟩ = some (.int .i64 0) := HX_R.out.cell 1
  have fc83 : w76.cell? ⟨(w.heap.size + 2), 2, none⟩ = some (.int .i64 0) := HX_R.out.cell 2
  have fc84 : w76.cell? ⟨(w.heap.size + 2), 3, none⟩ = some (.int .i64 0) := HX_R.out.cell 3
  have fc85 : w76.cell? ⟨(w.heap.size + 3), 0, none⟩ = some (.int .i64 c) := HX_an.out.cell 0
  have fc86 : w76.cell? ⟨(w.heap.size + 3), 1, none⟩ = some (.int .i64 r) := HX_an.out.cell 1
  have fz87 : w76.frozen? ⟨(w.heap.size + 2), 0, none⟩ = false := HX_R.out.free 0
  have fz88 : w76.frozen? ⟨(w.heap.size + 2), 1, none⟩ = false := HX_R.out.free 1
  have fz89 : w76.frozen? ⟨(w.heap.size + 2), 2, none⟩ = false := HX_R.out.free 2
  have fz90 : w76.frozen? ⟨(w.heap.size + 2), 3, none⟩ = false := HX_R.out.free 3
  go_wp2
  exact bodyPost_ret (v := .tuple #[.agg #[.int .i64 u, .int .i64 v, .int .i64 c, .int .i64 r], .bool true]) (resTw2 rfl rfl rfl (((((HX_R.out).set 0 (.int .i64 u)).set 1 (.int .i64 v)).set 2 (.int .i64 c)).set 3 (.int .i64 r))) rfl ⟨by rw [HF.out.1, HF.out.2], (by first | exact ((((HB.out).setCell (p := ⟨(w.heap.size + 2), 0, none⟩) (by first | exact Nat.le_refl _ | (simp only; omega)) _).setCell (p := ⟨(w.heap.size + 2), 1, none⟩) (by first | exact Nat.le_refl _ | (simp only; omega)) _).setCell (p := ⟨(w.heap.size + 2), 2, none⟩) (by first | exact Nat.le_refl _ | (simp only; omega)) _).setCell (p := ⟨(w.heap.size + 2), 3, none⟩) (by first | exact Nat.le_refl _ | (simp only; omega)) _ | exact (((((HB.out).setCell (p := ⟨(w.heap.size + 2), 0, none⟩) (by first | exact Nat.le_refl _ | (simp only; omega)) _).setCell (p := ⟨(w.heap.size + 2), 1, none⟩) (by first | exact Nat.le_refl _ | (simp only; omega)) _).setCell (p := ⟨(w.heap.size + 2), 2, none⟩) (by first | exact Nat.le_refl _ | (simp only; omega)) _).setCell (p := ⟨(w.heap.size + 2), 3, none⟩) (by first | exact Nat.le_refl _ | (simp only; omega)) _).drew)⟩

set_option maxHeartbeats 2000000 in
theorem X_i_TwinGood (a b k l x y c r : Int) (w : World) :
    Calls Try.prog 78 #[.agg #[.int .i64 a, .int .i64 b], .agg #[.int .i64 k, .int .i64 l], .agg #[.int .i64 x, .int .i64 y, .int .i64 c, .int .i64 r]] w fun e w' => e = .returned (.bool (twinB a b k l x y c r)) ∧ Below w.heap.size w w' := by
  obtain ⟨W0, hW0⟩ : ∃ W, Hid ((((w.alloc (.cells #[.int .i64 a, .int .i64 b] 80)).alloc (.cells #[.int .i64 k, .int .i64 l] 80)).alloc (.cells #[.int .i64 x, .int .i64 y, .int .i64 c, .int .i64 r] 76)) = W) := ⟨_, Lib.hid rfl⟩
  have HB : Hid (Below w.heap.size w W0) := Lib.hid (by rw [← hW0.out]; exact (((Below.refl _ _).alloc (Nat.le_refl _) _).alloc (by simp only [World.size_alloc]; omega) _).alloc (by simp only [World.size_alloc]; omega) _)
  have z_0 : w.heap.size + 3 ≤ W0.heap.size := by rw [← hW0.out]; simp only [World.size_alloc]; omega
  have HX_base : Hid (Bx W0 (w.heap.size) #[.int .i64 a, .int .i64 b] 80) := Lib.hid (by rw [← hW0.out]; have := Bx.new w #[.int .i64 a, .int .i64 b] 80; exact ((this.alloc _).alloc _))
  have HX_key : Hid (Bx W0 (w.heap.size + 1) #[.int .i64 k, .int .i64 l] 80) := Lib.hid (by rw [← hW0.out]; have := Bx.new (w.alloc (.cells #[.int .i64 a, .int .i64 b] 80)) #[.int .i64 k, .int .i64 l] 80; simp only [World.size_alloc] at this; exact (this.alloc _))
  have HX_t : Hid (Bx W0 (w.heap.size + 2) #[.int .i64 x, .int .i64 y, .int .i64 c, .int .i64 r] 76) := Lib.hid (by rw [← hW0.out]; have := Bx.new ((w.alloc (.cells #[.int .i64 a, .int .i64 b] 80)).alloc (.cells #[.int .i64 k, .int .i64 l] 80)) #[.int .i64 x, .int .i64 y, .int .i64 c, .int .i64 r] 76; simp only [World.size_alloc] at this; exact this)
  go_enter Try.func78, Try.ntmps78
  go_wp2_with fail
  rw [hW0.out]
  clear hW0
  refine (X_i_TwinFeign a b k l c r _).mono ?_
  rintro e w1 ⟨rfl, hb⟩
  have z1 : W0.heap.size ≤ w1.heap.size := hb.size
  replace HX_base := Lib.hid (HX_base.out.below hb HX_base.out.lt)
  replace HX_key := Lib.hid (HX_key.out.below hb HX_key.out.lt)
  replace HX_t := Lib.hid (HX_t.out.below hb HX_t.out.lt)
  replace HB := Lib.hid (HB.out.trans (hb.mono (by omega)))
  clear hb
  cases hf : twinFB a b k l c r
  · have HF : Hid (false = twinB a b k l x y c r) := Lib.hid (by unfold twinB; rw [hf]; rfl)
    have HD : Hid (tfeignD a b k l c r = (0, 0, 0, 0)) := Lib.hid (by unfold tfeignD; rw [hf]; rfl)
    rw [HD.out]
    have fc2 : (w1.alloc (.cells #[.int .i64 0, .int .i64 0, .int .i64 0, .int .i64 0] 76)).cell? ⟨w.heap.size, 0, none⟩ = some (.int .i64 a) := (HX_base.out.alloc _).cell 0
    have fc3 : (w1.alloc (.cells #[.int .i64 0, .int .i64 0, .int .i64 0, .int .i64 0] 76)).cell? ⟨w.heap.size, 1, none⟩ = some (.int .i64 b) := (HX_base.out.alloc _).cell 1
    have fc4 : (w1.alloc (.cells #[.int .i64 0, .int .i64 0, .int .i64 0, .int .i64 0] 76)).cell? ⟨(w.heap.size + 1), 0, none⟩ = some (.int .i64 k) := (HX_key.out.alloc _).cell 0
    have fc5 : (w1.alloc (.cells #[.int .i64 0, .int .i64 0, .int .i64 0, .int .i64 0] 76)).cell? ⟨(w.heap.size + 1), 1, none⟩ = some (.int .i64 l) := (HX_key.out.alloc _).cell 1
    have fc6 : (w1.alloc (.cells #[.int .i64 0, .int .i64 0, .int .i64 0, .int .i64 0] 76)).cell? ⟨(w.heap.size + 2), 0, none⟩ = some (.int .i64 x) := (HX_t.out.alloc _).cell 0
    have fc7 : (w1.alloc (.cells #[.int .i64 0, .int .i64 0, .int .i64 0, .int .i64 0] 76)).cell? ⟨(w.heap.size + 2), 1, none⟩ = some (.int .i64 y) := (HX_t.out.alloc _).cell 1
    have fc8 : (w1.alloc (.cells #[.int .i64 0, .int .i64 0, .int .i64 0, .int .i64 0] 76)).cell? ⟨(w.heap.size + 2), 2, none⟩ = some (.int .i64 c) := (HX_t.out.alloc _).cell 2
    have fc9 : (w1.alloc (.cells #[.int .i64 0, .int .i64 0, .int .i64 0, .int .i64 0] 76)).cell? ⟨(w.heap.size + 2), 3, none⟩ = some (.int .i64 r) := (HX_t.out.alloc _).cell 3
    go_wp2
    clear fc2 fc3 fc4 fc5 fc6 fc7 fc8 fc9
    obtain ⟨w10, hW10⟩ : ∃ W, Hid (w1.alloc (.cells #[.int .i64 0, .int .i64 0, .int .i64 0, .int .i64 0] 76) = W) := ⟨_, Lib.hid rfl⟩
    try rw [hW10.out]
    have z10 : w1.heap.size < w10.heap.size := by rw [← hW10.out, World.size_alloc]; omega
    have ha10 : Below w1.heap.size w1 w10 := by rw [← hW10.out]; exact (Below.refl _ _).alloc (Nat.le_refl _) _
    replace HX_base := Lib.hid (HX_base.out.below ha10 HX_base.out.lt)
    replace HX_key := Lib.hid (HX_key.out.below ha10 HX_key.out.lt)
    replace HX_t := Lib.hid (HX_t.out.below ha10 HX_t.out.lt)
    have HX_g : Hid (Bx w10 w1.heap.size #[.int .i64 0, .int .i64 0, .int .i64 0, .int .i64 0] 76) := Lib.hid (by rw [← hW10.out]; exact Bx.new _ _ _)
    replace HB := Lib.hid (HB.out.trans (ha10.mono (by omega)))
    clear ha10 hW10
    go_ret
    exact ⟨ret_bool HF.out, HB.out⟩
  obtain ⟨u, hu⟩ : ∃ u, Hid (backI a k r c = u) := ⟨_, Lib.hid rfl⟩
  obtain ⟨v, hv⟩ : ∃ v, Hid (backI b l r c = v) := ⟨_, Lib.hid rfl⟩
  have HD : Hid (tfeignD a b k l c r = (u, v, c, r)) := Lib.hid (by unfold tfeignD; rw [if_pos hf, hu.out, hv.out])
  have HF : Hid ((decide (x = u) && decide (y = v)) = twinB a b k l x y c r) := Lib.hid (by unfold twinB; rw [hf, hu.out, hv.out]; rfl)
  rw [HD.out]
  by_cases hxu : x = u
  · by_cases hyv : y = v
    · have HF2 : Hid (true = twinB a b k l x y c r) := Lib.hid (by rw [← HF.out]; simp [hxu, hyv])
      subst hxu
      subst hyv
      have fc11 : (w1.alloc (.cells #[.int .i64 x, .int .i64 y, .int .i64 c, .int .i64 r] 76)).cell? ⟨w.heap.size, 0, none⟩ = some (.int .i64 a) := (HX_base.out.alloc _).cell 0
      have fc12 : (w1.alloc (.cells #[.int .i64 x, .int .i64 y, .int .i64 c, .int .i64 r] 76)).cell? ⟨w.heap.size, 1, none⟩ = some (.int .i64 b) := (HX_base.out.alloc _).cell 1
      have fc13 : (w1.alloc (.cells #[.int .i64 x, .int .i64 y, .int .i64 c, .int .i64 r] 76)).cell? ⟨(w.heap.size + 1), 0, none⟩ = some (.int .i64 k) := (HX_key.out.alloc _).cell 0
      have fc14 : (w1.alloc (.cells #[.int .i64 x, .int .i64 y, .int .i64 c, .int .i64 r] 76)).cell? ⟨(w.heap.size + 1), 1, none⟩ = some (.int .i64 l) := (HX_key.out.alloc _).cell 1
      have fc15 : (w1.alloc (.cells #[.int .i64 x, .int .i64 y, .int .i64 c, .int .i64 r] 76)).cell? ⟨(w.heap.size + 2), 0, none⟩ = some (.int .i64 x) := (HX_t.out.alloc _).cell 0
      have fc16 : (w1.alloc (.cells #[.int .i64 x, .int .i64 y, .int .i64 c, .int .i64 r] 76)).cell? ⟨(w.heap.size + 2), 1, none⟩ = some (.int .i64 y) := (HX_t.out.alloc _).cell 1
      have fc17 : (w1.alloc (.cells #[.int .i64 x, .int .i64 y, .int .i64 c, .int .i64 r] 76)).cell? ⟨(w.heap.size + 2), 2, none⟩ = some (.int .i64 c) := (HX_t.out.alloc _).cell 2
      have fc18 : (w1.alloc (.cells #[.int .i64 x, .int .i64 y, .int .i64 c, .int .i64 r] 76)).cell? ⟨(w.heap.size + 2), 3, none⟩ = some (.int .i64 r) := (HX_t.out.alloc _).cell 3
      go_wp2
      clear fc11 fc12 fc13 fc14 fc15 fc16 fc17 fc18
      obtain ⟨w19, hW19⟩ : ∃ W, Hid (w1.alloc (.cells #[.int .i64 x, .int .i64 y, .int .i64 c, .int .i64 r] 76) = W) := ⟨_, Lib.hid rfl⟩
      try rw [hW19.out]
      have z19 : w1.heap.size < w19.heap.size := by rw [← hW19.out, World.size_alloc]; omega
      have ha19 : Below w1.heap.size w1 w19 := by rw [← hW19.out]; exact (Below.refl _ _).alloc (Nat.le_refl _) _
      replace HX_base := Lib.hid (HX_base.out.below ha19 HX_base.out.lt)
      replace HX_key := Lib.hid (HX_key.out.below ha19 HX_key.out.lt)
      replace HX_t := Lib.hid (HX_t.out.below ha19 HX_t.out.lt)
      have HX_g : Hid (Bx w19 w1.heap.size #[.int .i64 x, .int .i64 y, .int .i64 c, .int .i64 r] 76) := Lib.hid (by rw [← hW19.out]; exact Bx.new _ _ _)
      replace HB := Lib.hid (HB.out.trans (ha19.mono (by omega)))
      clear ha19 hW19
      go_ret
      exact ⟨ret_bool HF2.out, HB.out⟩
    have HF2 : Hid (false = twinB a b k l x y c r) := Lib.hid (by rw [← HF.out]; simp [hyv])
    subst hxu
    have e2 : (v == y) = false := by rw [beq_eq_false_iff_ne]; exact fun h => hyv h.symm
    have fc20 : (w1.alloc (.cells #[.int .i64 x, .int .i64 v, .int .i64 c, .int .i64 r] 76)).cell? ⟨w.heap.size, 0, none⟩ = some (.int .i64 a) := (HX_base.out.alloc _).cell 0
    have fc21 : (w1.alloc (.cells #[.int .i64 x, .int .i64 v, .int .i64 c, .int .i64 r] 76)).cell? ⟨w.heap.size, 1, none⟩ = some (.int .i64 b) := (HX_base.out.alloc _).cell 1
    have fc22 : (w1.alloc (.cells #[.int .i64 x, .int .i64 v, .int .i64 c, .int .i64 r] 76)).cell? ⟨(w.heap.size + 1), 0, none⟩ = some (.int .i64 k) := (HX_key.out.alloc _).cell 0
    have fc23 : (w1.alloc (.cells #[.int .i64 x, .int .i64 v, .int .i64 c, .int .i64 r] 76)).cell? ⟨(w.heap.size + 1), 1, none⟩ = some (.int .i64 l) := (HX_key.out.alloc _).cell 1
    have fc24 : (w1.alloc (.cells #[.int .i64 x, .int .i64 v, .int .i64 c, .int .i64 r] 76)).cell? ⟨(w.heap.size + 2), 0, none⟩ = some (.int .i64 x) := (HX_t.out.alloc _).cell 0
    have fc25 : (w1.alloc (.cells #[.int .i64 x, .int .i64 v, .int .i64 c, .int .i64 r] 76)).cell? ⟨(w.heap.size + 2), 1, none⟩ = some (.int .i64 y) := (HX_t.out.alloc _).cell 1
    have fc26 : (w1.alloc (.cells #[.int .i64 x, .int .i64 v, .int .i64 c, .int .i64 r] 76)).cell? ⟨(w.heap.size + 2), 2, none⟩ = some (.int .i64 c) := (HX_t.out.alloc _).cell 2
    have fc27 : (w1.alloc (.cells #[.int .i64 x, .int .i64 v, .int .i64 c, .int .i64 r] 76)).cell? ⟨(w.heap.size + 2), 3, none⟩ = some (.int .i64 r) := (HX_t.out.alloc _).cell 3
    go_wp2
    clear fc20 fc21 fc22 fc23 fc24 fc25 fc26 fc27
    obtain ⟨w28, hW28⟩ : ∃ W, Hid (w1.alloc (.cells #[.int .i64 x, .int .i64 v, .int .i64 c, .int .i64 r] 76) = W) := ⟨_, Lib.hid rfl⟩
    try rw [hW28.out]
    have z28 : w1.heap.size < w28.heap.size := by rw [← hW28.out, World.size_alloc]; omega
    have ha28 : Below w1.heap.size w1 w28 := by rw [← hW28.out]; exact (Below.refl _ _).alloc (Nat.le_refl _) _
    replace HX_base := Lib.hid (HX_base.out.below ha28 HX_base.out.lt)
    replace HX_key := Lib.hid (HX_key.out.below ha28 HX_key.out.lt)
    replace HX_t := Lib.hid (HX_t.out.below ha28 HX_t.out.lt)
    have HX_g : Hid (Bx w28 w1.heap.size #[.int .i64 x, .int .i64 v, .int .i64 c, .int .i64 r] 76) := Lib.hid (by rw [← hW28.out]; exact Bx.new _ _ _)
    replace HB := Lib.hid (HB.out.trans (ha28.mono (by omega)))
    clear ha28 hW28
    go_ret
    exact ⟨ret_bool HF2.out, HB.out⟩
  by_cases hyv : y = v
  · have HF2 : Hid (false = twinB a b k l x y c r) := Lib.hid (by rw [← HF.out]; simp [hxu])
    have e1 : (u == x) = false := by rw [beq_eq_false_iff_ne]; exact fun h => hxu h.symm
    subst hyv
    have fc29 : (w1.alloc (.cells #[.int .i64 u, .int .i64 y, .int .i64 c, .int .i64 r] 76)).cell? ⟨w.heap.size, 0, none⟩ = some (.int .i64 a) := (HX_base.out.alloc _).cell 0
    have fc30 : (w1.alloc (.cells #[.int .i64 u, .int .i64 y, .int .i64 c, .int .i64 r] 76)).cell? ⟨w.heap.size, 1, none⟩ = some (.int .i64 b) := (HX_base.out.alloc _).cell 1
    have fc31 : (w1.alloc (.cells #[.int .i64 u, .int .i64 y, .int .i64 c, .int .i64 r] 76)).cell? ⟨(w.heap.size + 1), 0, none⟩ = some (.int .i64 k) := (HX_key.out.alloc _).cell 0
    have fc32 : (w1.alloc (.cells #[.int .i64 u, .int .i64 y, .int .i64 c, .int .i64 r] 76)).cell? ⟨(w.heap.size + 1), 1, none⟩ = some (.int .i64 l) := (HX_key.out.alloc _).cell 1
    have fc33 : (w1.alloc (.cells #[.int .i64 u, .int .i64 y, .int .i64 c, .int .i64 r] 76)).cell? ⟨(w.heap.size + 2), 0, none⟩ = some (.int .i64 x) := (HX_t.out.alloc _).cell 0
    have fc34 : (w1.alloc (.cells #[.int .i64 u, .int .i64 y, .int .i64 c, .int .i64 r] 76)).cell? ⟨(w.heap.size + 2), 1, none⟩ = some (.int .i64 y) := (HX_t.out.alloc _).cell 1
    have fc35 : (w1.alloc (.cells #[.int .i64 u, .int .i64 y, .int .i64 c, .int .i64 r] 76)).cell? ⟨(w.heap.size + 2), 2, none⟩ = some (.int .i64 c) := (HX_t.out.alloc _).cell 2
    have fc36 : (w1.alloc (.cells #[.int .i64 u, .int .i64 y, .int .i64 c, .int .i64 r] 76)).cell? ⟨(w.heap.size + 2), 3, none⟩ = some (.int .i64 r) := (HX_t.out.alloc _).cell 3
    go_wp2
    clear fc29 fc30 fc31 fc32 fc33 fc34 fc35 fc36
    obtain ⟨w37, hW37⟩ : ∃ W, Hid (w1.alloc (.cells #[.int .i64 u, .int .i64 y, .int .i64 c, .int .i64 r] 76) = W) := ⟨_, Lib.hid rfl⟩
    try rw [hW37.out]
    have z37 : w1.heap.size < w37.heap.size := by rw [← hW37.out, World.size_alloc]; omega
    have ha37 : Below w1.heap.size w1 w37 := by rw [← hW37.out]; exact (Below.refl _ _).alloc (Nat.le_refl _) _
    replace HX_base := Lib.hid (HX_base.out.below ha37 HX_base.out.lt)
    replace HX_key := Lib.hid (HX_key.out.below ha37 HX_key.out.lt)
    replace HX_t := Lib.hid (HX_t.out.below ha37 HX_t.out.lt)
    have HX_g : Hid (Bx w37 w1.heap.size #[.int .i64 u, .int .i64 y, .int .i64 c, .int .i64 r] 76) := Lib.hid (by rw [← hW37.out]; exact Bx.new _ _ _)
    replace HB := Lib.hid (HB.out.trans (ha37.mono (by omega)))
    clear ha37 hW37
    go_ret
    exact ⟨ret_bool HF2.out, HB.out⟩
  have HF2 : Hid (false = twinB a b k l x y c r) := Lib.hid (by rw [← HF.out]; simp [hyv])
  have e1 : (u == x) = false := by rw [beq_eq_false_iff_ne]; exact fun h => hxu h.symm
  have e2 : (v == y) = false := by rw [beq_eq_false_iff_ne]; exact fun h => hyv h.symm
  have fc38 : (w1.alloc (.cells #[.int .i64 u, .int .i64 v, .int .i64 c, .int .i64 r] 76)).cell? ⟨w.heap.size, 0, none⟩ = some (.int .i64 a) := (HX_base.out.alloc _).cell 0
  have fc39 : (w1.alloc (.cells #[.int .i64 u, .int .i64 v, .int .i64 c, .int .i64 r] 76)).cell? ⟨w.heap.size, 1, none⟩ = some (.int .i64 b) := (HX_base.out.alloc _).cell 1
  have fc40 : (w1.alloc (.cells #[.int .i64 u, .int .i64 v, .int .i64 c, .int .i64 r] 76)).cell? ⟨(w.heap.size + 1), 0, none⟩ = some (.int .i64 k) := (HX_key.out.alloc _).cell 0
  have fc41 : (w1.alloc (.cells #[.int .i64 u, .int .i64 v, .int .i64 c, .int .i64 r] 76)).cell? ⟨(w.heap.size + 1), 1, none⟩ = some (.int .i64 l) := (HX_key.out.alloc _).cell 1
  have fc42 : (w1.alloc (.cells #[.int .i64 u, .int .i64 v, .int .i64 c, .int .i64 r] 76)).cell? ⟨(w.heap.size + 2), 0, none⟩ = some (.int .i64 x) := (HX_t.out.alloc _).cell 0
  have fc43 : (w1.alloc (.cells #[.int .i64 u, .int .i64 v, .int .i64 c, .int .i64 r] 76)).cell? ⟨(w.heap.size + 2), 1, none⟩ = some (.int .i64 y) := (HX_t.out.alloc _).cell 1
  have fc44 : (w1.alloc (.cells #[.int .i64 u, .int .i64 v, .int .i64 c, .int .i64 r] 76)).cell? ⟨(w.heap.size + 2), 2, none⟩ = some (.int .i64 c) := (HX_t.out.alloc _).cell 2
  have fc45 : (w1.alloc (.cells #[.int .i64 u, .int .i64 v, .int .i64 c, .int .i64 r] 76)).cell? ⟨(w.heap.size + 2), 3, none⟩ = some (.int .i64 r) := (HX_t.out.alloc _).cell 3
  go_wp2
  clear fc38 fc39 fc40 fc41 fc42 fc43 fc44 fc45
  obtain ⟨w46, hW46⟩ : ∃ W, Hid (w1.alloc (.cells #[.int .i64 u, .int .i64 v, .int .i64 c, .int .i64 r] 76) = W) := ⟨_, Lib.hid rfl⟩
  try rw [hW46.out]
  have z46 : w1.heap.size < w46.heap.size := by rw [← hW46.out, World.size_alloc]; omega
  have ha46 : Below w1.heap.size w1 w46 := by rw [← hW46.out]; exact (Below.refl _ _).alloc (Nat.le_refl _) _
  replace HX_base := Lib.hid (HX_base.out.below ha46 HX_base.out.lt)
  replace HX_key := Lib.hid (HX_key.out.below ha46 HX_key.out.lt)
  replace HX_t := Lib.hid (HX_t.out.below ha46 HX_t.out.lt)
  have HX_g : Hid (Bx w46 w1.heap.size #[.int .i64 u, .int .i64 v, .int .i64 c, .int .i64 r] 76) := Lib.hid (by rw [← hW46.out]; exact Bx.new _ _ _)
  replace HB := Lib.hid (HB.out.trans (ha46.mono (by omega)))
  clear ha46 hW46
  go_ret
  exact ⟨ret_bool HF2.out, HB.out⟩

theorem twinB_el {a b k l x y c r : Int} (h : twinB a b k l x y c r = true) : elB x = true ∧ elB y = true := by
  simp only [twinB, twinFB, Bool.and_eq_true, decide_eq_true_eq] at h
  obtain ⟨⟨⟨ha, hb⟩, ⟨hk, hl⟩, hc, hr⟩, hx, hy⟩ := h
  have n1 := (numB_iff c).1 hc
  have n2 := (numB_iff r).1 hr
  exact ⟨by rw [hx]; exact back_el ha hk n2.1 n1, by rw [hy]; exact back_el hb hl n2.1 n1⟩
end Go.Proofs.Ytdhakbpimbadgaa
