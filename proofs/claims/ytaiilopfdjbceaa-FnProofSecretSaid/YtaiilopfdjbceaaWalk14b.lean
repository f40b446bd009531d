/- Chapter 14: proofs of knowledge: the functions of both sides. Made by tools/gen14/b.py. -/
import Derived.Test.YtaiilopfdjbceaaWalk14a
import Derived.Deep.Cut
import Derived.Deep.RegionWith
namespace Go.Proofs.Ytaiilopfdjbceaa
open Go.RowKit
set_option maxRecDepth 100000

theorem nums3_14 (a b c : Int) : numsB [a, b, c] = makeB a b c := by simp [numsB, makeB]
set_option maxHeartbeats 2000000 in
theorem X_s_ProofMake (s n c : Int) (w : World) :
    Calls Try.prog 102 #[.int .i64 s, .int .i64 n, .int .i64 c] w fun e w' => e = .returned (.tuple #[.agg #[.int .i64 ((makeD s n c).1), .int .i64 ((makeD s n c).2.1), .int .i64 ((makeD s n c).2.2)], .bool (makeB s n c)]) ∧ Below w.heap.size w w' := by
  obtain ⟨W0, hW0⟩ : ∃ W, Hid ((w.alloc (.cells #[.int .i64 0, .int .i64 0, .int .i64 0] 52)) = W) := ⟨_, Lib.hid rfl⟩
  have HB : Hid (Below w.heap.size w W0) := Lib.hid (by rw [← hW0.out]; exact (Below.refl _ _).alloc (Nat.le_refl _) _)
  have z_0 : w.heap.size + 1 ≤ W0.heap.size := by rw [← hW0.out]; simp only [World.size_alloc]; omega
  have HX_R : Hid (Bx W0 (w.heap.size) #[.int .i64 0, .int .i64 0, .int .i64 0] 52) := Lib.hid (by rw [← hW0.out]; have := Bx.new w #[.int .i64 0, .int .i64 0, .int .i64 0] 52; exact this)
  go_enter Try.func102, Try.ntmps102
  go_wp2_with fail
  rw [hW0.out]
  clear hW0
  refine (s_NumOk _ _).mono ?_
  rintro e w' ⟨rfl, rfl⟩
  cases hs : numB s
  · have HF : Hid (makeD s n c = (0, 0, 0) ∧ makeB s n c = false) := Lib.hid (by simp [makeD, makeB, hs])
    have fc1 : W0.cell? ⟨w.heap.size, 0, none⟩ = some (.int .i64 0) := HX_R.out.cell 0
    have fc2 : W0.cell? ⟨w.heap.size, 1, none⟩ = some (.int .i64 0) := HX_R.out.cell 1
    have fc3 : W0.cell? ⟨w.heap.size, 2, none⟩ = some (.int .i64 0) := HX_R.out.cell 2
    have fz4 : W0.frozen? ⟨w.heap.size, 0, none⟩ = false := HX_R.out.free 0
    have fz5 : W0.frozen? ⟨w.heap.size, 1, none⟩ = false := HX_R.out.free 1
    have fz6 : W0.frozen? ⟨w.heap.size, 2, none⟩ = false := HX_R.out.free 2
    go_wp2
    exact bodyPost_ret (v := .tuple #[.agg #[.int .i64 0, .int .i64 0, .int .i64 0], .bool false]) (resPf2 rfl rfl rfl ((((HX_R.out).set 0 (.int .i64 0)).set 1 (.int .i64 0)).set 2 (.int .i64 0))) rfl ⟨by rw [HF.out.1, HF.out.2], (by first | exact (((HB.out).setCell (p := ⟨w.heap.size, 0, none⟩) (by first | exact Nat.le_refl _ | (simp only; omega)) _).setCell (p := ⟨w.heap.size, 1, none⟩) (by first | exact Nat.le_refl _ | (simp only; omega)) _).setCell (p := ⟨w.heap.size, 2, none⟩) (by first | exact Nat.le_refl _ | (simp only; omega)) _ | exact ((((HB.out).setCell (p := ⟨w.heap.size, 0, none⟩) (by first | exact Nat.le_refl _ | (simp only; omega)) _).setCell (p := ⟨w.heap.size, 1, none⟩) (by first | exact Nat.le_refl _ | (simp only; omega)) _).setCell (p := ⟨w.heap.size, 2, none⟩) (by first | exact Nat.le_refl _ | (simp only; omega)) _).drew)⟩
  have fc7 : W0.cell? ⟨w.heap.size, 0, none⟩ = some (.int .i64 0) := HX_R.out.cell 0
  have fc8 : W0.cell? ⟨w.heap.size, 1, none⟩ = some (.int .i64 0) := HX_R.out.cell 1
  have fc9 : W0.cell? ⟨w.heap.size, 2, none⟩ = some (.int .i64 0) := HX_R.out.cell 2
  go_wp2_with fail
  clear fc7 fc8 fc9
  refine (s_NumOk _ _).mono ?_
  rintro e w' ⟨rfl, rfl⟩
  cases hn : numB n
  · have HF : Hid (makeD s n c = (0, 0, 0) ∧ makeB s n c = false) := Lib.hid (by simp [makeD, makeB, hs, hn])
    have fc10 : W0.cell? ⟨w.heap.size, 0, none⟩ = some (.int .i64 0) := HX_R.out.cell 0
    have fc11 : W0.cell? ⟨w.heap.size, 1, none⟩ = some (.int .i64 0) := HX_R.out.cell 1
    have fc12 : W0.cell? ⟨w.heap.size, 2, none⟩ = some (.int .i64 0) := HX_R.out.cell 2
    have fz13 : W0.frozen? ⟨w.heap.size, 0, none⟩ = false := HX_R.out.free 0
    have fz14 : W0.frozen? ⟨w.heap.size, 1, none⟩ = false := HX_R.out.free 1
    have fz15 : W0.frozen? ⟨w.heap.size, 2, none⟩ = false := HX_R.out.free 2
    go_wp2
    exact bodyPost_ret (v := .tuple #[.agg #[.int .i64 0, .int .i64 0, .int .i64 0], .bool false]) (resPf2 rfl rfl rfl ((((HX_R.out).set 0 (.int .i64 0)).set 1 (.int .i64 0)).set 2 (.int .i64 0))) rfl ⟨by rw [HF.out.1, HF.out.2], (by first | exact (((HB.out).setCell (p := ⟨w.heap.size, 0, none⟩) (by first | exact Nat.le_refl _ | (simp only; omega)) _).setCell (p := ⟨w.heap.size, 1, none⟩) (by first | exact Nat.le_refl _ | (simp only; omega)) _).setCell (p := ⟨w.heap.size, 2, none⟩) (by first | exact Nat.le_refl _ | (simp only; omega)) _ | exact ((((HB.out).setCell (p := ⟨w.heap.size, 0, none⟩) (by first | exact Nat.le_refl _ | (simp only; omega)) _).setCell (p := ⟨w.heap.size, 1, none⟩) (by first | exact Nat.le_refl _ | (simp only; omega)) _).setCell (p := ⟨w.heap.size, 2, none⟩) (by first | exact Nat.le_refl _ | (simp only; omega)) _).drew)⟩
  have fc16 : W0.cell? ⟨w.heap.size, 0, none⟩ = some (.int .i64 0) := HX_R.out.cell 0
  have fc17 : W0.cell? ⟨w.heap.size, 1, none⟩ = some (.int .i64 0) := HX_R.out.cell 1
  have fc18 : W0.cell? ⟨w.heap.size, 2, none⟩ = some (.int .i64 0) := HX_R.out.cell 2
  go_wp2_with fail
  clear fc16 fc17 fc18
  refine (s_NumOk _ _).mono ?_
  rintro e w' ⟨rfl, rfl⟩
  cases hc : numB c
  · have HF : Hid (makeD s n c = (0, 0, 0) ∧ makeB s n c = false) := Lib.hid (by simp [makeD, makeB, hs, hn, hc])
    have fc19 : W0.cell? ⟨w.heap.size, 0, none⟩ = some (.int .i64 0) := HX_R.out.cell 0
    have fc20 : W0.cell? ⟨w.heap.size, 1, none⟩ = some (.int .i64 0) := HX_R.out.cell 1
    have fc21 : W0.cell? ⟨w.heap.size, 2, none⟩ = some (.int .i64 0) := HX_R.out.cell 2
    have fz22 : W0.frozen? ⟨w.heap.size, 0, none⟩ = false := HX_R.out.free 0
    have fz23 : W0.frozen? ⟨w.heap.size, 1, none⟩ = false := HX_R.out.free 1
    have fz24 : W0.frozen? ⟨w.heap.size, 2, none⟩ = false := HX_R.out.free 2
    go_wp2
    exact bodyPost_ret (v := .tuple #[.agg #[.int .i64 0, .int .i64 0, .int .i64 0], .bool false]) (resPf2 rfl rfl rfl ((((HX_R.out).set 0 (.int .i64 0)).set 1 (.int .i64 0)).set 2 (.int .i64 0))) rfl ⟨by rw [HF.out.1, HF.out.2], (by first | exact (((HB.out).setCell (p := ⟨w.heap.size, 0, none⟩) (by first | exact Nat.le_refl _ | (simp only; omega)) _).setCell (p := ⟨w.heap.size, 1, none⟩) (by first | exact Nat.le_refl _ | (simp only; omega)) _).setCell (p := ⟨w.heap.size, 2, none⟩) (by first | exact Nat.le_refl _ | (simp only; omega)) _ | exact ((((HB.out).setCell (p := ⟨w.heap.size, 0, none⟩) (by first | exact Nat.le_refl _ | (simp only; omega)) _).setCell (p := ⟨w.heap.size, 1, none⟩) (by first | exact Nat.le_refl _ | (simp only; omega)) _).setCell (p := ⟨w.heap.size, 2, none⟩) (by first | exact Nat.le_refl _ | (simp only; omega)) _).drew)⟩
  have HF : Hid (makeD s n c = (powI 4 n 227, c, (n + c * s) % 113) ∧ makeB s n c = true) := Lib.hid (by simp [makeD, makeB, hs, hn, hc])
  obtain ⟨s0, s1⟩ := (numB_iff s).1 hs
  obtain ⟨n0, n1⟩ := (numB_iff n).1 hn
  obtain ⟨c0, c1⟩ := (numB_iff c).1 hc
  obtain ⟨m0, m1⟩ := mul_bd c s c0 c1 s0 s1
  clear hs hn hc
  have fc25 : W0.cell? ⟨w.heap.size, 0, none⟩ = some (.int .i64 0) := HX_R.out.cell 0
  have fc26 : W0.cell? ⟨w.heap.size, 1, none⟩ = some (.int .i64 0) := HX_R.out.cell 1
  have fc27 : W0.cell? ⟨w.heap.size, 2, none⟩ = some (.int .i64 0) := HX_R.out.cell 2
  go_wp2_with fail
  clear fc25 fc26 fc27
  refine (s_l1Pow 4 n _ (by omega) (by omega) (by omega) (by omega)).mono ?_
  rintro e w' ⟨rfl, rfl⟩
  have fc28 : W0.cell? ⟨w.heap.size, 0, none⟩ = some (.int .i64 0) := HX_R.out.cell 0
  have fc29 : W0.cell? ⟨w.heap.size, 1, none⟩ = some (.int .i64 0) := HX_R.out.cell 1
  have fc30 : W0.cell? ⟨w.heap.size, 2, none⟩ = some (.int .i64 0) := HX_R.out.cell 2
  have fz31 : W0.frozen? ⟨w.heap.size, 0, none⟩ = false := HX_R.out.free 0
  have fz32 : W0.frozen? ⟨w.heap.size, 1, none⟩ = false := HX_R.out.free 1
  have fz33 : W0.frozen? ⟨w.heap.size, 2, none⟩ = false := HX_R.out.free 2
  go_wp2
  exact bodyPost_ret (v := .tuple #[.agg #[.int .i64 (powI 4 n 227), .int .i64 c, .int .i64 ((n + c * s) % 113)], .bool true]) (resPf2 rfl rfl rfl ((((HX_R.out).set 0 (.int .i64 (powI 4 n 227))).set 1 (.int .i64 c)).set 2 (.int .i64 ((n + c * s) % 113)))) rfl ⟨by rw [HF.out.1, HF.out.2], (by first | exact (((HB.out).setCell (p := ⟨w.heap.size, 0, none⟩) (by first | exact Nat.le_refl _ | (simp only; omega)) _).setCell (p := ⟨w.heap.size, 1, none⟩) (by first | exact Nat.le_refl _ | (simp only; omega)) _).setCell (p := ⟨w.heap.size, 2, none⟩) (by first | exact Nat.le_refl _ | (simp only; omega)) _ | exact ((((HB.out).setCell (p := ⟨w.heap.size, 0, none⟩) (by first | exact Nat.le_refl _ | (simp only; omega)) _).setCell (p := ⟨w.heap.size, 1, none⟩) (by first | exact Nat.le_refl _ | (simp only; omega)) _).setCell (p := ⟨w.heap.size, 2, none⟩) (by first | exact Nat.le_refl _ | (simp only; omega)) _).drew)⟩

set_option maxHeartbeats 2000000 in
theorem X_i_ProofFeign (k c r : Int) (w : World) :
    Calls Try.prog 76 #[.int .i64 k, .int .i64 c, .int .i64 r] w fun e w' => e = .returned (.tuple #[.agg #[.int .i64 ((feignD k c r).1), .int .i64 ((feignD k c r).2.1), .int .i64 ((feignD k c r).2.2)], .bool (feignB k c r)]) ∧ Below w.heap.size w w' := by
  obtain ⟨W0, hW0⟩ : ∃ W, Hid (((w.alloc (.cells #[.int .i64 0, .int .i64 0, .int .i64 0] 52)).alloc (.cells #[.int .i64 c, .int .i64 r] 92)) = W) := ⟨_, Lib.hid rfl⟩
  have HB : Hid (Below w.heap.size w W0) := Lib.hid (by rw [← hW0.out]; exact ((Below.refl _ _).alloc (Nat.le_refl _) _).alloc (by simp only [World.size_alloc]; omega) _)
  have z_0 : w.heap.size + 2 ≤ W0.heap.size := by rw [← hW0.out]; simp only [World.size_alloc]; omega
  have HX_R : Hid (Bx W0 (w.heap.size) #[.int .i64 0, .int .i64 0, .int .i64 0] 52) := Lib.hid (by rw [← hW0.out]; have := Bx.new w #[.int .i64 0, .int .i64 0, .int .i64 0] 52; exact (this.alloc _))
  have HX_a : Hid (Bx W0 (w.heap.size + 1) #[.int .i64 c, .int .i64 r] 92) := Lib.hid (by rw [← hW0.out]; have := Bx.new (w.alloc (.cells #[.int .i64 0, .int .i64 0, .int .i64 0] 52)) #[.int .i64 c, .int .i64 r] 92; simp only [World.size_alloc] at this; exact this)
  go_enter Try.func76, Try.ntmps76
  go_wp2_with fail
  rw [hW0.out]
  clear hW0
  refine (i_ElementOk _ _).mono ?_
  rintro e w' ⟨rfl, rfl⟩
  cases hk : elB k
  · have HF : Hid (feignD k c r = (0, 0, 0) ∧ feignB k c r = false) := Lib.hid (by simp [feignD, feignB, hk])
    have fc1 : W0.cell? ⟨w.heap.size, 0, none⟩ = some (.int .i64 0) := HX_R.out.cell 0
    have fc2 : W0.cell? ⟨w.heap.size, 1, none⟩ = some (.int .i64 0) := HX_R.out.cell 1
    have fc3 : W0.cell? ⟨w.heap.size, 2, none⟩ = some (.int .i64 0) := HX_R.out.cell 2
    have fc4 : W0.cell? ⟨(w.heap.size + 1), 0, none⟩ = some (.int .i64 c) := HX_a.out.cell 0
    have fc5 : W0.cell? ⟨(w.heap.size + 1), 1, none⟩ = some (.int .i64 r) := HX_a.out.cell 1
    have fz6 : W0.frozen? ⟨w.heap.size, 0, none⟩ = false := HX_R.out.free 0
    have fz7 : W0.frozen? ⟨w.heap.size, 1, none⟩ = false := HX_R.out.free 1
    have fz8 : W0.frozen? ⟨w.heap.size, 2, none⟩ = false := HX_R.out.free 2
    go_wp2
    exact bodyPost_ret (v := .tuple #[.agg #[.int .i64 0, .int .i64 0, .int .i64 0], .bool false]) (resPf2 rfl rfl rfl ((((HX_R.out).set 0 (.int .i64 0)).set 1 (.int .i64 0)).set 2 (.int .i64 0))) rfl ⟨by rw [HF.out.1, HF.out.2], (by first | exact (((HB.out).setCell (p := ⟨w.heap.size, 0, none⟩) (by first | exact Nat.le_refl _ | (simp only; omega)) _).setCell (p := ⟨w.heap.size, 1, none⟩) (by first | exact Nat.le_refl _ | (simp only; omega)) _).setCell (p := ⟨w.heap.size, 2, none⟩) (by first | exact Nat.le_refl _ | (simp only; omega)) _ | exact ((((HB.out).setCell (p := ⟨w.heap.size, 0, none⟩) (by first | exact Nat.le_refl _ | (simp only; omega)) _).setCell (p := ⟨w.heap.size, 1, none⟩) (by first | exact Nat.le_refl _ | (simp only; omega)) _).setCell (p := ⟨w.heap.size, 2, none⟩) (by first | exact Nat.le_refl _ | (simp only; omega)) _).drew)⟩
  have fc9 : W0.cell? ⟨w.heap.size, 0, none⟩ = some (.int .i64 0) := HX_R.out.cell 0
  have fc10 : W0.cell? ⟨w.heap.size, 1, none⟩ = some (.int .i64 0) := HX_R.out.cell 1
  have fc11 : W0.cell? ⟨w.heap.size, 2, none⟩ = some (.int .i64 0) := HX_R.out.cell 2
  have fc12 : W0.cell? ⟨(w.heap.size + 1), 0, none⟩ = some (.int .i64 c) := HX_a.out.cell 0
  have fc13 : W0.cell? ⟨(w.heap.size + 1), 1, none⟩ = some (.int .i64 r) := HX_a.out.cell 1
  go_wp2_with fail
  clear fc9 fc10 fc11 fc12 fc13
  refine (i_an_ok c r _).mono ?_
  rintro e w14 ⟨rfl, hb⟩
  have z14 : W0.heap.size ≤ w14.heap.size := hb.size
  replace HX_R := Lib.hid (HX_R.out.below hb HX_R.out.lt)
  replace HX_a := Lib.hid (HX_a.out.below hb HX_a.out.lt)
  replace HB := Lib.hid (HB.out.trans (hb.mono (by omega)))
  clear hb
  cases hcr : (numB c && numB r)
  · have HF : Hid (feignD k c r = (0, 0, 0) ∧ feignB k c r = false) := Lib.hid (by simp [feignD, feignB, hk, hcr])
    have fc15 : w14.cell? ⟨w.heap.size, 0, none⟩ = some (.int .i64 0) := HX_R.out.cell 0
    have fc16 : w14.cell? ⟨w.heap.size, 1, none⟩ = some (.int .i64 0) := HX_R.out.cell 1
    have fc17 : w14.cell? ⟨w.heap.size, 2, none⟩ = some (.int .i64 0) := HX_R.out.cell 2
    have fc18 : w14.cell? ⟨(w.heap.size + 1), 0, none⟩ = some (.int .i64 c) := HX_a.out.cell 0
    have fc19 : w14.cell? ⟨(w.heap.size + 1), 1, none⟩ = some (.int .i64 r) := HX_a.out.cell 1
    have fz20 : w14.frozen? ⟨w.heap.size, 0, none⟩ = false := HX_R.out.free 0
    have fz21 : w14.frozen? ⟨w.heap.size, 1, none⟩ = false := HX_R.out.free 1
    have fz22 : w14.frozen? ⟨w.heap.size, 2, none⟩ = false := HX_R.out.free 2
    go_wp2
    exact bodyPost_ret (v := .tuple #[.agg #[.int .i64 0, .int .i64 0, .int .i64 0], .bool false]) (resPf2 rfl rfl rfl ((((HX_R.out).set 0 (.int .i64 0)).set 1 (.int .i64 0)).set 2 (.int .i64 0))) rfl ⟨by rw [HF.out.1, HF.out.2], (by first | exact (((HB.out).setCell (p := ⟨w.heap.size, 0, none⟩) (by first | exact Nat.le_refl _ | (simp only; omega)) _).setCell (p := ⟨w.heap.size, 1, none⟩) (by first | exact Nat.le_refl _ | (simp only; omega)) _).setCell (p := ⟨w.heap.size, 2, none⟩) (by first | exact Nat.le_refl _ | (simp only; omega)) _ | exact ((((HB.out).setCell (p := ⟨w.heap.size, 0, none⟩) (by first | exact Nat.le_refl _ | (simp only; omega)) _).setCell (p := ⟨w.heap.size, 1, none⟩) (by first | exact Nat.le_refl _ | (simp only; omega)) _).setCell (p := ⟨w.heap.size, 2, none⟩) (by first | exact Nat.le_refl _ | (simp only; omega)) _).drew)⟩
  simp only [Bool.and_eq_true] at hcr
  obtain ⟨hc, hr⟩ := hcr
  obtain ⟨v, hv⟩ : ∃ v, Hid (backI 4 k r c = v) := ⟨_, Lib.hid rfl⟩
  have HF : Hid (feignD k c r = (v, c, r) ∧ feignB k c r = true) := Lib.hid (by rw [← hv.out]; simp [feignD, feignB, hk, hc, hr])
  have kE := elB_range hk
  have k0 : 0 ≤ k := by omega
  have k1 : k ≤ 226 := by omega
  clear kE
  obtain ⟨c0, c1⟩ := (numB_iff c).1 hc
  obtain ⟨r0, r1⟩ := (numB_iff r).1 hr
  clear hk hc hr
  have fc23 : w14.cell? ⟨w.heap.size, 0, none⟩ = some (.int .i64 0) := HX_R.out.cell 0
  have fc24 : w14.cell? ⟨w.heap.size, 1, none⟩ = some (.int .i64 0) := HX_R.out.cell 1
  have fc25 : w14.cell? ⟨w.heap.size, 2, none⟩ = some (.int .i64 0) := HX_R.out.cell 2
  have fc26 : w14.cell? ⟨(w.heap.size + 1), 0, none⟩ = some (.int .i64 c) := HX_a.out.cell 0
  have fc27 : w14.cell? ⟨(w.heap.size + 1), 1, none⟩ = some (.int .i64 r) := HX_a.out.cell 1
  go_wp2_with fail
  clear fc23 fc24 fc25 fc26 fc27
  refine (i_an_proof c r k _ c0 c1 r0 r1 k0 k1).mono ?_
  rintro e w28 ⟨rfl, hb⟩
  have z28 : w14.heap.size ≤ w28.heap.size := hb.size
  replace HX_R := Lib.hid (HX_R.out.below hb HX_R.out.lt)
  replace HX_a := Lib.hid (HX_a.out.below hb HX_a.out.lt)
  replace HB := Lib.hid (HB.out.trans (hb.mono (by omega)))
  clear hb
  rw [hv.out]
  have fc29 : w28.cell? ⟨w.heap.size, 0, none⟩ = some (.int .i64 0) := HX_R.out.cell 0
  have fc30 : w28.cell? ⟨w.heap.size, 1, none⟩ = some (.int .i64 0) := HX_R.out.cell 1
  have fc31 : w28.cell? ⟨w.heap.size, 2, none⟩ = some (.int .i64 0) := HX_R.out.cell 2
  have fc32 : w28.cell? ⟨(w.heap.size + 1), 0, none⟩ = some (.int .i64 c) := HX_a.out.cell 0
  have fc33 : w28.cell? ⟨(w.heap.size + 1), 1, none⟩ = some (.int .i64 r) := HX_a.out.cell 1
  have fz34 : w28.frozen? ⟨w.heap.size, 0, none⟩ = false := HX_R.out.free 0
  have fz35 : w28.frozen? ⟨w.heap.size, 1, none⟩ = false := HX_R.out.free 1
  have fz36 : w28.frozen? ⟨w.heap.size, 2, none⟩ = false := HX_R.out.free 2
  go_wp2
  exact bodyPost_ret (v := .tuple #[.agg #[.int .i64 v, .int .i64 c, .int .i64 r], .bool true]) (resPf2 rfl rfl rfl ((((HX_R.out).set 0 (.int .i64 v)).set 1 (.int .i64 c)).set 2 (.int .i64 r))) rfl ⟨by rw [HF.out.1, HF.out.2], (by first | exact (((HB.out).setCell (p := ⟨w.heap.size, 0, none⟩) (by first | exact Nat.le_refl _ | (simp only; omega)) _).setCell (p := ⟨w.heap.size, 1, none⟩) (by first | exact Nat.le_refl _ | (simp only; omega)) _).setCell (p := ⟨w.heap.size, 2, none⟩) (by first | exact Nat.le_refl _ | (simp only; omega)) _ | exact ((((HB.out).setCell (p := ⟨w.heap.size, 0, none⟩) (by first | exact Nat.le_refl _ | (simp only; omega)) _).setCell (p := ⟨w.heap.size, 1, none⟩) (by first | exact Nat.le_refl _ | (simp only; omega)) _).setCell (p := ⟨w.heap.size, 2, none⟩) (by first | exact Nat.le_refl _ | (simp only; omega)) _).drew)⟩

set_option maxHeartbeats 2000000 in
theorem X_s_ProofGood (k x c r : Int) (w : World) :
    Calls Try.prog 40 #[.int .i64 k, .agg #[.int .i64 x, .int .i64 c, .int .i64 r]] w fun e w' => e = .returned (.bool (goodB k x c r)) ∧ Below w.heap.size w w' := by
  obtain ⟨W0, hW0⟩ : ∃ W, Hid ((w.alloc (.cells #[.int .i64 x, .int .i64 c, .int .i64 r] 52)) = W) := ⟨_, Lib.hid rfl⟩
  have HB : Hid (Below w.heap.size w W0) := Lib.hid (by rw [← hW0.out]; exact (Below.refl _ _).alloc (Nat.le_refl _) _)
  have z_0 : w.heap.size + 1 ≤ W0.heap.size := by rw [← hW0.out]; simp only [World.size_alloc]; omega
  have HX_p : Hid (Bx W0 (w.heap.size) #[.int .i64 x, .int .i64 c, .int .i64 r] 52) := Lib.hid (by rw [← hW0.out]; have := Bx.new w #[.int .i64 x, .int .i64 c, .int .i64 r] 52; exact this)
  go_enter Try.func40, Try.ntmps40
  go_wp2_with fail
  rw [hW0.out]
  clear hW0
  refine (s_ElementOk _ _).mono ?_
  rintro e w' ⟨rfl, rfl⟩
  cases hk : elB k
  · have HF : Hid (false = goodB k x c r) := Lib.hid (by simp [goodB, hk])
    have fc1 : W0.cell? ⟨w.heap.size, 0, none⟩ = some (.int .i64 x) := HX_p.out.cell 0
    have fc2 : W0.cell? ⟨w.heap.size, 1, none⟩ = some (.int .i64 c) := HX_p.out.cell 1
    have fc3 : W0.cell? ⟨w.heap.size, 2, none⟩ = some (.int .i64 r) := HX_p.out.cell 2
    go_wp2
    go_ret
    exact ⟨ret_bool HF.out, HB.out⟩
  have fc4 : W0.cell? ⟨w.heap.size, 0, none⟩ = some (.int .i64 x) := HX_p.out.cell 0
  have fc5 : W0.cell? ⟨w.heap.size, 1, none⟩ = some (.int .i64 c) := HX_p.out.cell 1
  have fc6 : W0.cell? ⟨w.heap.size, 2, none⟩ = some (.int .i64 r) := HX_p.out.cell 2
  go_wp2_with fail
  clear fc4 fc5 fc6
  refine (s_ElementOk _ _).mono ?_
  rintro e w' ⟨rfl, rfl⟩
  cases hx : elB x
  · have HF : Hid (false = goodB k x c r) := Lib.hid (by simp [goodB, hk, hx])
    have fc7 : W0.cell? ⟨w.heap.size, 0, none⟩ = some (.int .i64 x) := HX_p.out.cell 0
    have fc8 : W0.cell? ⟨w.heap.size, 1, none⟩ = some (.int .i64 c) := HX_p.out.cell 1
    have fc9 : W0.cell? ⟨w.heap.size, 2, none⟩ = some (.int .i64 r) := HX_p.out.cell 2
    go_wp2
    go_ret
    exact ⟨ret_bool HF.out, HB.out⟩
  have fc10 : W0.cell? ⟨w.heap.size, 0, none⟩ = some (.int .i64 x) := HX_p.out.cell 0
  have fc11 : W0.cell? ⟨w.heap.size, 1, none⟩ = some (.int .i64 c) := HX_p.out.cell 1
  have fc12 : W0.cell? ⟨w.heap.size, 2, none⟩ = some (.int .i64 r) := HX_p.out.cell 2
  go_wp2_with fail
  clear fc10 fc11 fc12
  refine (s_NumOk _ _).mono ?_
  rintro e w' ⟨rfl, rfl⟩
  cases hc : numB c
  · have HF : Hid (false = goodB k x c r) := Lib.hid (by simp [goodB, hk, hx, hc])
    have fc13 : W0.cell? ⟨w.heap.size, 0, none⟩ = some (.int .i64 x) := HX_p.out.cell 0
    have fc14 : W0.cell? ⟨w.heap.size, 1, none⟩ = some (.int .i64 c) := HX_p.out.cell 1
    have fc15 : W0.cell? ⟨w.heap.size, 2, none⟩ = some (.int .i64 r) := HX_p.out.cell 2
    go_wp2
    go_ret
    exact ⟨ret_bool HF.out, HB.out⟩
  have fc16 : W0.cell? ⟨w.heap.size, 0, none⟩ = some (.int .i64 x) := HX_p.out.cell 0
  have fc17 : W0.cell? ⟨w.heap.size, 1, none⟩ = some (.int .i64 c) := HX_p.out.cell 1
  have fc18 : W0.cell? ⟨w.heap.size, 2, none⟩ = some (.int .i64 r) := HX_p.out.cell 2
  go_wp2_with fail
  clear fc16 fc17 fc18
  refine (s_NumOk _ _).mono ?_
  rintro e w' ⟨rfl, rfl⟩
  cases hr : numB r
  · have HF : Hid (false = goodB k x c r) := Lib.hid (by simp [goodB, hk, hx, hc, hr])
    have fc19 : W0.cell? ⟨w.heap.size, 0, none⟩ = some (.int .i64 x) := HX_p.out.cell 0
    have fc20 : W0.cell? ⟨w.heap.size, 1, none⟩ = some (.int .i64 c) := HX_p.out.cell 1
    have fc21 : W0.cell? ⟨w.heap.size, 2, none⟩ = some (.int .i64 r) := HX_p.out.cell 2
    go_wp2
    go_ret
    exact ⟨ret_bool HF.out, HB.out⟩
  obtain ⟨u, hu⟩ : ∃ u, Hid (powI 4 r 227 = u) := ⟨_, Lib.hid rfl⟩
  obtain ⟨v, hv⟩ : ∃ v, Hid (powI k c 227 = v) := ⟨_, Lib.hid rfl⟩
  have v0 : 0 ≤ v := by rw [← hv.out]; exact powI_lo _ _ _
  have v1 : v ≤ 226 := by rw [← hv.out]; exact (powI_bd _ _).2
  have HF : Hid ((u == x * v % 227) = goodB k x c r) := Lib.hid (by rw [← hu.out, ← hv.out, Bool.eq_iff_iff]; simp [goodB, hk, hx, hc, hr])
  have kE := elB_range hk
  have k0 : 0 ≤ k := by omega
  have k1 : k ≤ 226 := by omega
  clear kE
  have xE := elB_range hx
  have x0 : 0 ≤ x := by omega
  have x1 : x ≤ 226 := by omega
  clear xE
  obtain ⟨c0, c1⟩ := (numB_iff c).1 hc
  obtain ⟨r0, r1⟩ := (numB_iff r).1 hr
  obtain ⟨m0, m1⟩ := mul_bd2 _ _ x0 x1 v0 v1
  clear hk hx hc hr
  have H_u : ∀ W : World, Hid (Calls Try.prog 78 #[.int .i64 4, .int .i64 r] W fun e w' => e = .returned (.int .i64 u) ∧ W = w') := fun W => Lib.hid (by rw [← hu.out]; exact s_l1Pow 4 r W (by omega) (by omega) (by omega) (by omega))
  have H_v : ∀ W : World, Hid (Calls Try.prog 78 #[.int .i64 k, .int .i64 c] W fun e w' => e = .returned (.int .i64 v) ∧ W = w') := fun W => Lib.hid (by rw [← hv.out]; exact s_l1Pow k c W (by omega) (by omega) (by omega) (by omega))
  have fc22 : W0.cell? ⟨w.heap.size, 0, none⟩ = some (.int .i64 x) := HX_p.out.cell 0
  have fc23 : W0.cell? ⟨w.heap.size, 1, none⟩ = some (.int .i64 c) := HX_p.out.cell 1
  have fc24 : W0.cell? ⟨w.heap.size, 2, none⟩ = some (.int .i64 r) := HX_p.out.cell 2
  go_wp2
  clear fc22 fc23 fc24
  have fc25 : W0.cell? ⟨w.heap.size, 0, none⟩ = some (.int .i64 x) := HX_p.out.cell 0
  have fc26 : W0.cell? ⟨w.heap.size, 1, none⟩ = some (.int .i64 c) := HX_p.out.cell 1
  have fc27 : W0.cell? ⟨w.heap.size, 2, none⟩ = some (.int .i64 r) := HX_p.out.cell 2
  go_quiet ((go_at_call 78; (first | with_reducible exact quiet_drewN (H_u _).out | with_reducible exact quiet_drewN (H_v _).out)))
  go_wp2
  go_ret
  exact ⟨ret_bool HF.out, below_drewN HB.out _⟩

set_option maxHeartbeats 2000000 in
theorem X_i_ProofGood (k x c r : Int) (w : World) :
    Calls Try.prog 39 #[.int .i64 k, .agg #[.int .i64 x, .int .i64 c, .int .i64 r]] w fun e w' => e = .returned (.bool (goodB k x c r)) ∧ Below w.heap.size w w' := by
  obtain ⟨W0, hW0⟩ : ∃ W, Hid ((w.alloc (.cells #[.int .i64 x, .int .i64 c, .int .i64 r] 52)) = W) := ⟨_, Lib.hid rfl⟩
  have HB : Hid (Below w.heap.size w W0) := Lib.hid (by rw [← hW0.out]; exact (Below.refl _ _).alloc (Nat.le_refl _) _)
  have z_0 : w.heap.size + 1 ≤ W0.heap.size := by rw [← hW0.out]; simp only [World.size_alloc]; omega
  have HX_p : Hid (Bx W0 (w.heap.size) #[.int .i64 x, .int .i64 c, .int .i64 r] 52) := Lib.hid (by rw [← hW0.out]; have := Bx.new w #[.int .i64 x, .int .i64 c, .int .i64 r] 52; exact this)
  go_enter Try.func39, Try.ntmps39
  go_wp2_with fail
  rw [hW0.out]
  clear hW0
  refine (X_i_ProofFeign k c r _).mono ?_
  rintro e w1 ⟨rfl, hb⟩
  have z1 : W0.heap.size ≤ w1.heap.size := hb.size
  replace HX_p := Lib.hid (HX_p.out.below hb HX_p.out.lt)
  replace HB := Lib.hid (HB.out.trans (hb.mono (by omega)))
  clear hb
  cases hf : feignB k c r
  · have HF : Hid (false = goodB k x c r) := Lib.hid (by rw [good_is, hf]; rfl)
    have HD : Hid (feignD k c r = (0, 0, 0)) := Lib.hid (by simp [feignD, hf])
    rw [HD.out]
    have fc2 : (w1.alloc (.cells #[.int .i64 0, .int .i64 0, .int .i64 0] 52)).cell? ⟨w.heap.size, 0, none⟩ = some (.int .i64 x) := (HX_p.out.alloc _).cell 0
    have fc3 : (w1.alloc (.cells #[.int .i64 0, .int .i64 0, .int .i64 0] 52)).cell? ⟨w.heap.size, 1, none⟩ = some (.int .i64 c) := (HX_p.out.alloc _).cell 1
    have fc4 : (w1.alloc (.cells #[.int .i64 0, .int .i64 0, .int .i64 0] 52)).cell? ⟨w.heap.size, 2, none⟩ = some (.int .i64 r) := (HX_p.out.alloc _).cell 2
    go_wp2
    clear fc2 fc3 fc4
    obtain ⟨w5, hW5⟩ : ∃ W, Hid (w1.alloc (.cells #[.int .i64 0, .int .i64 0, .int .i64 0] 52) = W) := ⟨_, Lib.hid rfl⟩
    try rw [hW5.out]
    have z5 : w1.heap.size < w5.heap.size := by rw [← hW5.out, World.size_alloc]; omega
    have ha5 : Below w1.heap.size w1 w5 := by rw [← hW5.out]; exact (Below.refl _ _).alloc (Nat.le_refl _) _
    replace HX_p := Lib.hid (HX_p.out.below ha5 HX_p.out.lt)
    have HX_g : Hid (Bx w5 w1.heap.size #[.int .i64 0, .int .i64 0, .int .i64 0] 52) := Lib.hid (by rw [← hW5.out]; exact Bx.new _ _ _)
    replace HB := Lib.hid (HB.out.trans (ha5.mono (by omega)))
    clear ha5 hW5
    go_ret
    exact ⟨ret_bool HF.out, HB.out⟩
  obtain ⟨v, hv⟩ : ∃ v, Hid (backI 4 k r c = v) := ⟨_, Lib.hid rfl⟩
  have HD : Hid (feignD k c r = (v, c, r)) := Lib.hid (by rw [← hv.out]; simp [feignD, hf])
  have HF : Hid (decide (x = v) = goodB k x c r) := Lib.hid (by rw [good_is, hf, ← hv.out]; rfl)
  rw [HD.out]
  by_cases hxv : x = v
  · have HF2 : Hid (true = goodB k x c r) := Lib.hid (by rw [← HF.out]; simp [hxv])
    subst hxv
    have fc6 : (w1.alloc (.cells #[.int .i64 x, .int .i64 c, .int .i64 r] 52)).cell? ⟨w.heap.size, 0, none⟩ = some (.int .i64 x) := (HX_p.out.alloc _).cell 0
    have fc7 : (w1.alloc (.cells #[.int .i64 x, .int .i64 c, .int .i64 r] 52)).cell? ⟨w.heap.size, 1, none⟩ = some (.int .i64 c) := (HX_p.out.alloc _).cell 1
    have fc8 : (w1.alloc (.cells #[.int .i64 x, .int .i64 c, .int .i64 r] 52)).cell? ⟨w.heap.size, 2, none⟩ = some (.int .i64 r) := (HX_p.out.alloc _).cell 2
    go_wp2
    clear fc6 fc7 fc8
    obtain ⟨w9, hW9⟩ : ∃ W, Hid (w1.alloc (.cells #[.int .i64 x, .int .i64 c, .int .i64 r] 52) = W) := ⟨_, Lib.hid rfl⟩
    try rw [hW9.out]
    have z9 : w1.heap.size < w9.heap.size := by rw [← hW9.out, World.size_alloc]; omega
    have ha9 : Below w1.heap.size w1 w9 := by rw [← hW9.out]; exact (Below.refl _ _).alloc (Nat.le_refl _) _
    replace HX_p := Lib.hid (HX_p.out.below ha9 HX_p.out.lt)
    have HX_g : Hid (Bx w9 w1.heap.size #[.int .i64 x, .int .i64 c, .int .i64 r] 52) := Lib.hid (by rw [← hW9.out]; exact Bx.new _ _ _)
    replace HB := Lib.hid (HB.out.trans (ha9.mono (by omega)))
    clear ha9 hW9
    go_ret
    exact ⟨ret_bool HF2.out, HB.out⟩
  have HF2 : Hid (false = goodB k x c r) := Lib.hid (by rw [← HF.out]; simp [hxv])
  have e1 : (v == x) = false := by rw [beq_eq_false_iff_ne]; exact fun h => hxv h.symm
  have fc10 : (w1.alloc (.cells #[.int .i64 v, .int .i64 c, .int .i64 r] 52)).cell? ⟨w.heap.size, 0, none⟩ = some (.int .i64 x) := (HX_p.out.alloc _).cell 0
  have fc11 : (w1.alloc (.cells #[.int .i64 v, .int .i64 c, .int .i64 r] 52)).cell? ⟨w.heap.size, 1, none⟩ = some (.int .i64 c) := (HX_p.out.alloc _).cell 1
  have fc12 : (w1.alloc (.cells #[.int .i64 v, .int .i64 c, .int .i64 r] 52)).cell? ⟨w.heap.size, 2, none⟩ = some (.int .i64 r) := (HX_p.out.alloc _).cell 2
  go_wp2
  clear fc10 fc11 fc12
  obtain ⟨w13, hW13⟩ : ∃ W, Hid (w1.alloc (.cells #[.int .i64 v, .int .i64 c, .int .i64 r] 52) = W) := ⟨_, Lib.hid rfl⟩
  try rw [hW13.out]
  have z13 : w1.heap.size < w13.heap.size := by rw [← hW13.out, World.size_alloc]; omega
  have ha13 : Below w1.heap.size w1 w13 := by rw [← hW13.out]; exact (Below.refl _ _).alloc (Nat.le_refl _) _
  replace HX_p := Lib.hid (HX_p.out.below ha13 HX_p.out.lt)
  have HX_g : Hid (Bx w13 w1.heap.size #[.int .i64 v, .int .i64 c, .int .i64 r] 52) := Lib.hid (by rw [← hW13.out]; exact Bx.new _ _ _)
  replace HB := Lib.hid (HB.out.trans (ha13.mono (by omega)))
  clear ha13 hW13
  go_ret
  exact ⟨ret_bool HF2.out, HB.out⟩

theorem pf_nums {k x c r : Int} (h : goodB k x c r = true) : (0 ≤ c ∧ c ≤ 112) ∧ (0 ≤ r ∧ r ≤ 112) := by
  simp only [goodB, Bool.and_eq_true] at h
  exact ⟨(numB_iff _).1 h.2.2.1, (numB_iff _).1 h.2.2.2.1⟩
set_option maxHeartbeats 2000000 in
theorem X_s_ProofSecret (k x c r y d s : Int) (w : World) :
    Calls Try.prog 43 #[.int .i64 k, .agg #[.int .i64 x, .int .i64 c, .int .i64 r], .agg #[.int .i64 y, .int .i64 d, .int .i64 s]] w fun e w' => e = .returned (.tuple #[.int .i64 (secV k x c r y d s), .bool (secB k x c r y d s)]) ∧ Below w.heap.size w w' := by
  obtain ⟨W0, hW0⟩ : ∃ W, Hid (((w.alloc (.cells #[.int .i64 x, .int .i64 c, .int .i64 r] 52)).alloc (.cells #[.int .i64 y, .int .i64 d, .int .i64 s] 52)) = W) := ⟨_, Lib.hid rfl⟩
  have HB : Hid (Below w.heap.size w W0) := Lib.hid (by rw [← hW0.out]; exact ((Below.refl _ _).alloc (Nat.le_refl _) _).alloc (by simp only [World.size_alloc]; omega) _)
  have z_0 : w.heap.size + 2 ≤ W0.heap.size := by rw [← hW0.out]; simp only [World.size_alloc]; omega
  have HX_p : Hid (Bx W0 (w.heap.size) #[.int .i64 x, .int .i64 c, .int .i64 r] 52) := Lib.hid (by rw [← hW0.out]; have := Bx.new w #[.int .i64 x, .int .i64 c, .int .i64 r] 52; exact (this.alloc _))
  have HX_q : Hid (Bx W0 (w.heap.size + 1) #[.int .i64 y, .int .i64 d, .int .i64 s] 52) := Lib.hid (by rw [← hW0.out]; have := Bx.new (w.alloc (.cells #[.int .i64 x, .int .i64 c, .int .i64 r] 52)) #[.int .i64 y, .int .i64 d, .int .i64 s] 52; simp only [World.size_alloc] at this; exact this)
  go_enter Try.func43, Try.ntmps43
  go_wp2_with fail
  rw [hW0.out]
  clear hW0
  refine (X_s_ProofGood k x c r _).mono ?_
  rintro e w1 ⟨rfl, hb⟩
  have z1 : W0.heap.size ≤ w1.heap.size := hb.size
  replace HX_p := Lib.hid (HX_p.out.below hb HX_p.out.lt)
  replace HX_q := Lib.hid (HX_q.out.below hb HX_q.out.lt)
  replace HB := Lib.hid (HB.out.trans (hb.mono (by omega)))
  clear hb
  cases g1 : goodB k x c r
  · have HF : Hid (secV k x c r y d s = 0 ∧ secB k x c r y d s = false) := Lib.hid (by simp [secV, secB, g1])
    have fc2 : w1.cell? ⟨w.heap.size, 0, none⟩ = some (.int .i64 x) := HX_p.out.cell 0
    have fc3 : w1.cell? ⟨w.heap.size, 1, none⟩ = some (.int .i64 c) := HX_p.out.cell 1
    have fc4 : w1.cell? ⟨w.heap.size, 2, none⟩ = some (.int .i64 r) := HX_p.out.cell 2
    have fc5 : w1.cell? ⟨(w.heap.size + 1), 0, none⟩ = some (.int .i64 y) := HX_q.out.cell 0
    have fc6 : w1.cell? ⟨(w.heap.size + 1), 1, none⟩ = some (.int .i64 d) := HX_q.out.cell 1
    have fc7 : w1.cell? ⟨(w.heap.size + 1), 2, none⟩ = some (.int .i64 s) := HX_q.out.cell 2
    go_wp2
    go_ret2
    exact ⟨rtib HF.out.1.symm HF.out.2.symm, HB.out⟩
  have fc8 : w1.cell? ⟨w.heap.size, 0, none⟩ = some (.int .i64 x) := HX_p.out.cell 0
  have fc9 : w1.cell? ⟨w.heap.size, 1, none⟩ = some (.int .i64 c) := HX_p.out.cell 1
  have fc10 : w1.cell? ⟨w.heap.size, 2, none⟩ = some (.int .i64 r) := HX_p.out.cell 2
  have fc11 : w1.cell? ⟨(w.heap.size + 1), 0, none⟩ = some (.int .i64 y) := HX_q.out.cell 0
  have fc12 : w1.cell? ⟨(w.heap.size + 1), 1, none⟩ = some (.int .i64 d) := HX_q.out.cell 1
  have fc13 : w1.cell? ⟨(w.heap.size + 1), 2, none⟩ = some (.int .i64 s) := HX_q.out.cell 2
  go_wp2_with fail
  clear fc8 fc9 fc10 fc11 fc12 fc13
  refine (X_s_ProofGood k y d s _).mono ?_
  rintro e w14 ⟨rfl, hb⟩
  have z14 : w1.heap.size ≤ w14.heap.size := hb.size
  replace HX_p := Lib.hid (HX_p.out.below hb HX_p.out.lt)
  replace HX_q := Lib.hid (HX_q.out.below hb HX_q.out.lt)
  replace HB := Lib.hid (HB.out.trans (hb.mono (by omega)))
  clear hb
  cases g2 : goodB k y d s
  · have HF : Hid (secV k x c r y d s = 0 ∧ secB k x c r y d s = false) := Lib.hid (by simp [secV, secB, g1, g2])
    have fc15 : w14.cell? ⟨w.heap.size, 0, none⟩ = some (.int .i64 x) := HX_p.out.cell 0
    have fc16 : w14.cell? ⟨w.heap.size, 1, none⟩ = some (.int .i64 c) := HX_p.out.cell 1
    have fc17 : w14.cell? ⟨w.heap.size, 2, none⟩ = some (.int .i64 r) := HX_p.out.cell 2
    have fc18 : w14.cell? ⟨(w.heap.size + 1), 0, none⟩ = some (.int .i64 y) := HX_q.out.cell 0
    have fc19 : w14.cell? ⟨(w.heap.size + 1), 1, none⟩ = some (.int .i64 d) := HX_q.out.cell 1
    have fc20 : w14.cell? ⟨(w.heap.size + 1), 2, none⟩ = some (.int .i64 s) := HX_q.out.cell 2
    go_wp2
    go_ret2
    exact ⟨rtib HF.out.1.symm HF.out.2.symm, HB.out⟩
  by_cases hxy : x = y
  rotate_left
  · have e1 : (x != y) = true := by rw [bne_iff_ne]; exact hxy
    have HB_ : Hid (secB k x c r y d s = false) := Lib.hid (by unfold secB; rw [g1, g2]; simp [hxy])
    have HF : Hid (secV k x c r y d s = 0 ∧ secB k x c r y d s = false) := Lib.hid ⟨by unfold secV; rw [HB_.out]; rfl, HB_.out⟩
    have fc21 : w14.cell? ⟨w.heap.size, 0, none⟩ = some (.int .i64 x) := HX_p.out.cell 0
    have fc22 : w14.cell? ⟨w.heap.size, 1, none⟩ = some (.int .i64 c) := HX_p.out.cell 1
    have fc23 : w14.cell? ⟨w.heap.size, 2, none⟩ = some (.int .i64 r) := HX_p.out.cell 2
    have fc24 : w14.cell? ⟨(w.heap.size + 1), 0, none⟩ = some (.int .i64 y) := HX_q.out.cell 0
    have fc25 : w14.cell? ⟨(w.heap.size + 1), 1, none⟩ = some (.int .i64 d) := HX_q.out.cell 1
    have fc26 : w14.cell? ⟨(w.heap.size + 1), 2, none⟩ = some (.int .i64 s) := HX_q.out.cell 2
    go_wp2
    go_ret2
    exact ⟨rtib HF.out.1.symm HF.out.2.symm, HB.out⟩
  by_cases hcd : c = d
  · have e1 : (c == d) = true := by rw [beq_iff_eq]; exact hcd
    have e2 : (x != y) = false := by simp [hxy]
    have HB_ : Hid (secB k x c r y d s = false) := Lib.hid (by unfold secB; rw [g1, g2]; simp [hcd])
    have HF : Hid (secV k x c r y d s = 0 ∧ secB k x c r y d s = false) := Lib.hid ⟨by unfold secV; rw [HB_.out]; rfl, HB_.out⟩
    have fc27 : w14.cell? ⟨w.heap.size, 0, none⟩ = some (.int .i64 x) := HX_p.out.cell 0
    have fc28 : w14.cell? ⟨w.heap.size, 1, none⟩ = some (.int .i64 c) := HX_p.out.cell 1
    have fc29 : w14.cell? ⟨w.heap.size, 2, none⟩ = some (.int .i64 r) := HX_p.out.cell 2
    have fc30 : w14.cell? ⟨(w.heap.size + 1), 0, none⟩ = some (.int .i64 y) := HX_q.out.cell 0
    have fc31 : w14.cell? ⟨(w.heap.size + 1), 1, none⟩ = some (.int .i64 d) := HX_q.out.cell 1
    have fc32 : w14.cell? ⟨(w.heap.size + 1), 2, none⟩ = some (.int .i64 s) := HX_q.out.cell 2
    go_wp2
    go_ret2
    exact ⟨rtib HF.out.1.symm HF.out.2.symm, HB.out⟩
  have e1 : (c == d) = false := by rw [beq_eq_false_iff_ne]; exact hcd
  have e2 : (x != y) = false := by simp [hxy]
  have gp := pf_nums g1
  have gq := pf_nums g2
  obtain ⟨⟨c0, c1⟩, r0, r1⟩ := gp
  obtain ⟨⟨d0, d1⟩, s0, s1⟩ := gq
  obtain ⟨u, hu⟩ : ∃ u, Hid ((r - s) % 113 = u) := ⟨_, Lib.hid rfl⟩
  obtain ⟨v, hv⟩ : ∃ v, Hid ((c - d) % 113 = v) := ⟨_, Lib.hid rfl⟩
  have u0 : 0 ≤ u := by have := hu.out; omega
  have u1 : u ≤ 112 := by have := hu.out; omega
  have v0 : 1 ≤ v := by have := hv.out; omega
  have v1 : v ≤ 112 := by have := hv.out; omega
  obtain ⟨i0, i1⟩ := inv_bd14 v
  obtain ⟨m0, m1⟩ := mul_bd _ _ u0 u1 i0 i1
  have HF : Hid (secV k x c r y d s = u * powI v 111 113 % 113 ∧ secB k x c r y d s = true) := Lib.hid (by
    have hb : secB k x c r y d s = true := by unfold secB; rw [g1, g2]; simp [hxy, hcd]
    exact ⟨by unfold secV; rw [if_pos hb, hu.out, hv.out], hb⟩)
  clear g1 g2 hxy hcd
  have H_u : ∀ W : World, Hid (Calls Try.prog 84 #[.int .i64 r, .int .i64 s] W fun e w' => e = .returned (.int .i64 u) ∧ W = w') := fun W => Lib.hid (by rw [← hu.out]; exact s_l1Sub r s W r0 r1 s0 s1)
  have H_v : ∀ W : World, Hid (Calls Try.prog 84 #[.int .i64 c, .int .i64 d] W fun e w' => e = .returned (.int .i64 v) ∧ W = w') := fun W => Lib.hid (by rw [← hv.out]; exact s_l1Sub c d W c0 c1 d0 d1)
  have fc33 : w14.cell? ⟨w.heap.size, 0, none⟩ = some (.int .i64 x) := HX_p.out.cell 0
  have fc34 : w14.cell? ⟨w.heap.size, 1, none⟩ = some (.int .i64 c) := HX_p.out.cell 1
  have fc35 : w14.cell? ⟨w.heap.size, 2, none⟩ = some (.int .i64 r) := HX_p.out.cell 2
  have fc36 : w14.cell? ⟨(w.heap.size + 1), 0, none⟩ = some (.int .i64 y) := HX_q.out.cell 0
  have fc37 : w14.cell? ⟨(w.heap.size + 1), 1, none⟩ = some (.int .i64 d) := HX_q.out.cell 1
  have fc38 : w14.cell? ⟨(w.heap.size + 1), 2, none⟩ = some (.int .i64 s) := HX_q.out.cell 2
  go_wp2
  clear fc33 fc34 fc35 fc36 fc37 fc38
  have fc39 : w14.cell? ⟨w.heap.size, 0, none⟩ = some (.int .i64 x) := HX_p.out.cell 0
  have fc40 : w14.cell? ⟨w.heap.size, 1, none⟩ = some (.int .i64 c) := HX_p.out.cell 1
  have fc41 : w14.cell? ⟨w.heap.size, 2, none⟩ = some (.int .i64 r) := HX_p.out.cell 2
  have fc42 : w14.cell? ⟨(w.heap.size + 1), 0, none⟩ = some (.int .i64 y) := HX_q.out.cell 0
  have fc43 : w14.cell? ⟨(w.heap.size + 1), 1, none⟩ = some (.int .i64 d) := HX_q.out.cell 1
  have fc44 : w14.cell? ⟨(w.heap.size + 1), 2, none⟩ = some (.int .i64 s) := HX_q.out.cell 2
  go_quiet ((first | (go_at_call 84; (first | with_reducible exact quiet_drewN (H_u _).out | with_reducible exact quiet_drewN (H_v _).out)) | (go_at_call 85; with_reducible exact quiet_drewN (s_l1Inv v _ v0 v1))))
  go_wp2
  go_ret2
  exact ⟨rtib HF.out.1.symm HF.out.2.symm, below_drewN HB.out _⟩

set_option maxHeartbeats 2000000 in
theorem X_i_ProofSecret (k x c r y d s : Int) (w : World) :
    Calls Try.prog 42 #[.int .i64 k, .agg #[.int .i64 x, .int .i64 c, .int .i64 r], .agg #[.int .i64 y, .int .i64 d, .int .i64 s]] w fun e w' => e = .returned (.tuple #[.int .i64 (secV k x c r y d s), .bool (secB k x c r y d s)]) ∧ Below w.heap.size w w' := by
  obtain ⟨W0, hW0⟩ : ∃ W, Hid (((w.alloc (.cells #[.int .i64 x, .int .i64 c, .int .i64 r] 52)).alloc (.cells #[.int .i64 y, .int .i64 d, .int .i64 s] 52)) = W) := ⟨_, Lib.hid rfl⟩
  have HB : Hid (Below w.heap.size w W0) := Lib.hid (by rw [← hW0.out]; exact ((Below.refl _ _).alloc (Nat.le_refl _) _).alloc (by simp only [World.size_alloc]; omega) _)
  have z_0 : w.heap.size + 2 ≤ W0.heap.size := by rw [← hW0.out]; simp only [World.size_alloc]; omega
  have HX_p : Hid (Bx W0 (w.heap.size) #[.int .i64 x, .int .i64 c, .int .i64 r] 52) := Lib.hid (by rw [← hW0.out]; have := Bx.new w #[.int .i64 x, .int .i64 c, .int .i64 r] 52; exact (this.alloc _))
  have HX_q : Hid (Bx W0 (w.heap.size + 1) #[.int .i64 y, .int .i64 d, .int .i64 s] 52) := Lib.hid (by rw [← hW0.out]; have := Bx.new (w.alloc (.cells #[.int .i64 x, .int .i64 c, .int .i64 r] 52)) #[.int .i64 y, .int .i64 d, .int .i64 s] 52; simp only [World.size_alloc] at this; exact this)
  go_enter Try.func42, Try.ntmps42
  go_wp2_with fail
  rw [hW0.out]
  clear hW0
  refine (X_i_ProofGood k x c r _).mono ?_
  rintro e w1 ⟨rfl, hb⟩
  have z1 : W0.heap.size ≤ w1.heap.size := hb.size
  replace HX_p := Lib.hid (HX_p.out.below hb HX_p.out.lt)
  replace HX_q := Lib.hid (HX_q.out.below hb HX_q.out.lt)
  replace HB := Lib.hid (HB.out.trans (hb.mono (by omega)))
  clear hb
  cases g1 : goodB k x c r
  · have HF : Hid (secV k x c r y d s = 0 ∧ secB k x c r y d s = false) := Lib.hid (by simp [secV, secB, g1])
    have fc2 : w1.cell? ⟨w.heap.size, 0, none⟩ = some (.int .i64 x) := HX_p.out.cell 0
    have fc3 : w1.cell? ⟨w.heap.size, 1, none⟩ = some (.int .i64 c) := HX_p.out.cell 1
    have fc4 : w1.cell? ⟨w.heap.size, 2, none⟩ = some (.int .i64 r) := HX_p.out.cell 2
    have fc5 : w1.cell? ⟨(w.heap.size + 1), 0, none⟩ = some (.int .i64 y) := HX_q.out.cell 0
    have fc6 : w1.cell? ⟨(w.heap.size + 1), 1, none⟩ = some (.int .i64 d) := HX_q.out.cell 1
    have fc7 : w1.cell? ⟨(w.heap.size + 1), 2, none⟩ = some (.int .i64 s) := HX_q.out.cell 2
    go_wp2
    go_ret2
    exact ⟨rtib HF.out.1.symm HF.out.2.symm, HB.out⟩
  have fc8 : w1.cell? ⟨w.heap.size, 0, none⟩ = some (.int .i64 x) := HX_p.out.cell 0
  have fc9 : w1.cell? ⟨w.heap.size, 1, none⟩ = some (.int .i64 c) := HX_p.out.cell 1
  have fc10 : w1.cell? ⟨w.heap.size, 2, none⟩ = some (.int .i64 r) := HX_p.out.cell 2
  have fc11 : w1.cell? ⟨(w.heap.size + 1), 0, none⟩ = some (.int .i64 y) := HX_q.out.cell 0
  have fc12 : w1.cell? ⟨(w.heap.size + 1), 1, none⟩ = some (.int .i64 d) := HX_q.out.cell 1
  have fc13 : w1.cell? ⟨(w.heap.size + 1), 2, none⟩ = some (.int .i64 s) := HX_q.out.cell 2
  go_wp2_with fail
  clear fc8 fc9 fc10 fc11 fc12 fc13
  refine (X_i_ProofGood k y d s _).mono ?_
  rintro e w14 ⟨rfl, hb⟩
  have z14 : w1.heap.size ≤ w14.heap.size := hb.size
  replace HX_p := Lib.hid (HX_p.out.below hb HX_p.out.lt)
  replace HX_q := Lib.hid (HX_q.out.below hb HX_q.out.lt)
  replace HB := Lib.hid (HB.out.trans (hb.mono (by omega)))
  clear hb
  cases g2 : goodB k y d s
  · have HF : Hid (secV k x c r y d s = 0 ∧ secB k x c r y d s = false) := Lib.hid (by simp [secV, secB, g1, g2])
    have fc15 : w14.cell? ⟨w.heap.size, 0, none⟩ = some (.int .i64 x) := HX_p.out.cell 0
    have fc16 : w14.cell? ⟨w.heap.size, 1, none⟩ = some (.int .i64 c) := HX_p.out.cell 1
    have fc17 : w14.cell? ⟨w.heap.size, 2, none⟩ = some (.int .i64 r) := HX_p.out.cell 2
    have fc18 : w14.cell? ⟨(w.heap.size + 1), 0, none⟩ = some (.int .i64 y) := HX_q.out.cell 0
    have fc19 : w14.cell? ⟨(w.heap.size + 1), 1, none⟩ = some (.int .i64 d) := HX_q.out.cell 1
    have fc20 : w14.cell? ⟨(w.heap.size + 1), 2, none⟩ = some (.int .i64 s) := HX_q.out.cell 2
    go_wp2
    go_ret2
    exact ⟨rtib HF.out.1.symm HF.out.2.symm, HB.out⟩
  by_cases hxy : x = y
  rotate_left
  · have e1 : (x != y) = true := by rw [bne_iff_ne]; exact hxy
    have HB_ : Hid (secB k x c r y d s = false) := Lib.hid (by unfold secB; rw [g1, g2]; simp [hxy])
    have HF : Hid (secV k x c r y d s = 0 ∧ secB k x c r y d s = false) := Lib.hid ⟨by unfold secV; rw [HB_.out]; rfl, HB_.out⟩
    have fc21 : w14.cell? ⟨w.heap.size, 0, none⟩ = some (.int .i64 x) := HX_p.out.cell 0
    have fc22 : w14.cell? ⟨w.heap.size, 1, none⟩ = some (.int .i64 c) := HX_p.out.cell 1
    have fc23 : w14.cell? ⟨w.heap.size, 2, none⟩ = some (.int .i64 r) := HX_p.out.cell 2
    have fc24 : w14.cell? ⟨(w.heap.size + 1), 0, none⟩ = some (.int .i64 y) := HX_q.out.cell 0
    have fc25 : w14.cell? ⟨(w.heap.size + 1), 1, none⟩ = some (.int .i64 d) := HX_q.out.cell 1
    have fc26 : w14.cell? ⟨(w.heap.size + 1), 2, none⟩ = some (.int .i64 s) := HX_q.out.cell 2
    go_wp2
    go_ret2
    exact ⟨rtib HF.out.1.symm HF.out.2.symm, HB.out⟩
  by_cases hcd : c = d
  · have e1 : (c == d) = true := by rw [beq_iff_eq]; exact hcd
    have e2 : (x != y) = false := by simp [hxy]
    have HB_ : Hid (secB k x c r y d s = false) := Lib.hid (by unfold secB; rw [g1, g2]; simp [hcd])
    have HF : Hid (secV k x c r y d s = 0 ∧ secB k x c r y d s = false) := Lib.hid ⟨by unfold secV; rw [HB_.out]; rfl, HB_.out⟩
    have fc27 : w14.cell? ⟨w.heap.size, 0, none⟩ = some (.int .i64 x) := HX_p.out.cell 0
    have fc28 : w14.cell? ⟨w.heap.size, 1, none⟩ = some (.int .i64 c) := HX_p.out.cell 1
    have fc29 : w14.cell? ⟨w.heap.size, 2, none⟩ = some (.int .i64 r) := HX_p.out.cell 2
    have fc30 : w14.cell? ⟨(w.heap.size + 1), 0, none⟩ = some (.int .i64 y) := HX_q.out.cell 0
    have fc31 : w14.cell? ⟨(w.heap.size + 1), 1, none⟩ = some (.int .i64 d) := HX_q.out.cell 1
    have fc32 : w14.cell? ⟨(w.heap.size + 1), 2, none⟩ = some (.int .i64 s) := HX_q.out.cell 2
    go_wp2
    go_ret2
    exact ⟨rtib HF.out.1.symm HF.out.2.symm, HB.out⟩
  have e1 : (c == d) = false := by rw [beq_eq_false_iff_ne]; exact hcd
  have e2 : (x != y) = false := by simp [hxy]
  have gp := pf_nums g1
  have gq := pf_nums g2
  obtain ⟨⟨c0, c1⟩, r0, r1⟩ := gp
  obtain ⟨⟨d0, d1⟩, s0, s1⟩ := gq
  obtain ⟨u, hu⟩ : ∃ u, Hid ((r - s) % 113 = u) := ⟨_, Lib.hid rfl⟩
  obtain ⟨v, hv⟩ : ∃ v, Hid ((c - d) % 113 = v) := ⟨_, Lib.hid rfl⟩
  have u0 : 0 ≤ u := by have := hu.out; omega
  have u1 : u ≤ 112 := by have := hu.out; omega
  have v0 : 1 ≤ v := by have := hv.out; omega
  have v1 : v ≤ 112 := by have := hv.out; omega
  obtain ⟨i0, i1⟩ := inv_bd14 v
  obtain ⟨m0, m1⟩ := mul_bd _ _ u0 u1 i0 i1
  have HF : Hid (secV k x c r y d s = u * powI v 111 113 % 113 ∧ secB k x c r y d s = true) := Lib.hid (by
    have hb : secB k x c r y d s = true := by unfold secB; rw [g1, g2]; simp [hxy, hcd]
    exact ⟨by unfold secV; rw [if_pos hb, hu.out, hv.out], hb⟩)
  clear g1 g2 hxy hcd
  have H_u : ∀ W : World, Hid (Calls Try.prog 81 #[.int .i64 r, .int .i64 s] W fun e w' => e = .returned (.int .i64 u) ∧ W = w') := fun W => Lib.hid (by rw [← hu.out]; exact i_minus r s W r0 r1 s0 s1)
  have H_v : ∀ W : World, Hid (Calls Try.prog 81 #[.int .i64 c, .int .i64 d] W fun e w' => e = .returned (.int .i64 v) ∧ W = w') := fun W => Lib.hid (by rw [← hv.out]; exact i_minus c d W c0 c1 d0 d1)
  have fc33 : w14.cell? ⟨w.heap.size, 0, none⟩ = some (.int .i64 x) := HX_p.out.cell 0
  have fc34 : w14.cell? ⟨w.heap.size, 1, none⟩ = some (.int .i64 c) := HX_p.out.cell 1
  have fc35 : w14.cell? ⟨w.heap.size, 2, none⟩ = some (.int .i64 r) := HX_p.out.cell 2
  have fc36 : w14.cell? ⟨(w.heap.size + 1), 0, none⟩ = some (.int .i64 y) := HX_q.out.cell 0
  have fc37 : w14.cell? ⟨(w.heap.size + 1), 1, none⟩ = some (.int .i64 d) := HX_q.out.cell 1
  have fc38 : w14.cell? ⟨(w.heap.size + 1), 2, none⟩ = some (.int .i64 s) := HX_q.out.cell 2
  go_upto_region 3 with (fail)
  clear fc33 fc34 fc35 fc36 fc37 fc38
  go_cut [8, 9] from 34 (fun p q w' => ∃ B1 B2 : Nat, p = .pointer (some ⟨B1, 0, none⟩) ∧ q = .pointer (some ⟨B2, 0, none⟩) ∧ Hid (Bx w' B1 #[.int .i64 c, .int .i64 r] 92) ∧ Hid (Bx w' B2 #[.int .i64 d, .int .i64 s] 92) ∧ Hid (Below w.heap.size w w'))
  case first =>
    go_wp2
    refine wp_region_held_drew (S := fun w' => w'.cell? ⟨w.heap.size, 0, none⟩ = some (.int .i64 x) ∧ w'.cell? ⟨w.heap.size, 1, none⟩ = some (.int .i64 c) ∧ w'.cell? ⟨w.heap.size, 2, none⟩ = some (.int .i64 r) ∧ w'.cell? ⟨(w.heap.size + 1), 0, none⟩ = some (.int .i64 y) ∧ w'.cell? ⟨(w.heap.size + 1), 1, none⟩ = some (.int .i64 d) ∧ w'.cell? ⟨(w.heap.size + 1), 2, none⟩ = some (.int .i64 s)) (by kernel_rfl) ⟨HX_p.out.cell 0, HX_p.out.cell 1, HX_p.out.cell 2, HX_q.out.cell 0, HX_q.out.cell 1, HX_q.out.cell 2⟩ (fun hHeld => ?_)
    obtain ⟨u0, hu0⟩ : ∃ u0, Hid (w14.drew = u0) := ⟨_, Lib.hid rfl⟩
    rw [hu0.out] at hHeld ⊢
    have zs0 : w14.heap.size = u0.heap.size := by rw [← hu0.out]; rfl
    replace zs0 := Nat.le_of_eq zs0
    have HBl0 : Hid (Below w.heap.size w u0) := Lib.hid (by rw [← hu0.out]; exact HB.out.drew)
    have HX_p0 : Hid (Bx u0 w.heap.size #[.int .i64 x, .int .i64 c, .int .i64 r] 52) := Lib.hid (by rw [← hu0.out]; exact HX_p.out)
    have HX_q0 : Hid (Bx u0 (w.heap.size + 1) #[.int .i64 y, .int .i64 d, .int .i64 s] 52) := Lib.hid (by rw [← hu0.out]; exact HX_q.out)
    clear hu0
    refine wpAnyH_take (i := 0) (oi := { dst := some 34, op := Op.load 52 (Operand.tmp 4), type := 52, pos := "l14_knowledge.go:105", after := #[], guard := none }) (v := ?_) rfl (by kernel_rfl) (by kernel_rfl) (by kernel_rfl) (fun _ _ _ h => h) (Or.inl ⟨by rfl, ?_⟩) hHeld ?_
    rotate_left
    · intro w hSw; obtain ⟨s0, s1, s2, s3, s4, s5⟩ := hSw; (try dsimp only at hSw); go_simp; (try with_reducible rfl)
    try simp only [Act.put, List.setIfInBounds_toArray, List.set_cons_zero, List.set_cons_succ]
    refine wpAnyH_take (i := 2) (oi := { dst := some 36, op := Op.load 52 (Operand.tmp 5), type := 52, pos := "l14_knowledge.go:105", after := #[], guard := none }) (v := ?_) rfl (by kernel_rfl) (by kernel_rfl) (by kernel_rfl) (fun _ _ _ h => h) (Or.inl ⟨by rfl, ?_⟩) hHeld ?_
    rotate_left
    · intro w hSw; obtain ⟨s0, s1, s2, s3, s4, s5⟩ := hSw; (try dsimp only at hSw); go_simp; (try with_reducible rfl)
    try simp only [Act.put, List.setIfInBounds_toArray, List.set_cons_zero, List.set_cons_succ]
    refine wpAnyH_ready (rs := [1, 4, 5]) (by kernel_rfl) (by simp) ?_
    refine AllReadyH.cons (o := { dst := some 35, op := Op.call { callee := Callee.value (Operand.func 80), args := #[Operand.tmp 34], argTypes := #[52] }, type := 92, pos := "l14_knowledge.go:105", after := #[{ on := 0, ground := Ground.data }], guard := none }) rfl (fun K hK => ?_) ?_
    · go_simp
      refine (i_Proof_answer x c r u0).mono ?_
      rintro e u1 ⟨rfl, hb_⟩
      have zs1 : u0.heap.size ≤ u1.heap.size := hb_.size
      have HBl1 : Hid (Below w.heap.size w u1) := Lib.hid (HBl0.out.trans (hb_.mono HBl0.out.size))
      have HX_p1 : Hid (Bx u1 w.heap.size #[.int .i64 x, .int .i64 c, .int .i64 r] 52) := Lib.hid (HX_p0.out.below hb_ HX_p0.out.lt)
      have HX_q1 : Hid (Bx u1 (w.heap.size + 1) #[.int .i64 y, .int .i64 d, .int .i64 s] 52) := Lib.hid (HX_q0.out.below hb_ HX_q0.out.lt)
      clear hHeld hb_ HBl0 HX_p0 HX_q0
      (try dsimp only)
      (try go_wp2_with fail)
      refine hK.out _ _ ⟨HX_p1.out.cell 0, HX_p1.out.cell 1, HX_p1.out.cell 2, HX_q1.out.cell 0, HX_q1.out.cell 1, HX_q1.out.cell 2⟩ (fun hHeld => ?_)
      clear hK K
      try simp only [Act.put, List.setIfInBounds_toArray, List.set_cons_zero, List.set_cons_succ]
      refine wpAnyH_ready (rs := [3, 4, 5]) (by kernel_rfl) (by simp) ?_
      refine AllReadyH.cons (o := { dst := some 37, op := Op.call { callee := Callee.value (Operand.func 80), args := #[Operand.tmp 36], argTypes := #[52] }, type := 92, pos := "l14_knowledge.go:105", after := #[{ on := 2, ground := Ground.data }, { on := 1, ground := Ground.chain }], guard := none }) rfl (fun K hK => ?_) ?_
      · go_simp
        refine (i_Proof_answer y d s u1).mono ?_
        rintro e u2 ⟨rfl, hb_⟩
        have zs2 : u1.heap.size ≤ u2.heap.size := hb_.size
        have HBl2 : Hid (Below w.heap.size w u2) := Lib.hid (HBl1.out.trans (hb_.mono HBl1.out.size))
        have HX_p2 : Hid (Bx u2 w.heap.size #[.int .i64 x, .int .i64 c, .int .i64 r] 52) := Lib.hid (HX_p1.out.below hb_ HX_p1.out.lt)
        have HX_q2 : Hid (Bx u2 (w.heap.size + 1) #[.int .i64 y, .int .i64 d, .int .i64 s] 52) := Lib.hid (HX_q1.out.below hb_ HX_q1.out.lt)
        clear hHeld hb_ HBl1 HX_p1 HX_q1
        (try dsimp only)
        (try go_wp2_with fail)
        refine hK.out _ _ ⟨HX_p2.out.cell 0, HX_p2.out.cell 1, HX_p2.out.cell 2, HX_q2.out.cell 0, HX_q2.out.cell 1, HX_q2.out.cell 2⟩ (fun hHeld => ?_)
        clear hK K
        try simp only [Act.put, List.setIfInBounds_toArray, List.set_cons_zero, List.set_cons_succ]
        refine wpAnyH_ready (rs := [4, 5]) (by kernel_rfl) (by simp) ?_
        refine AllReadyH.cons (o := { dst := some 8, op := Op.alloc 92, type := 0, pos := "l14_knowledge.go:105", after := #[], guard := none }) rfl (fun K hK => ?_) ?_
        · go_simp
          obtain ⟨u3, hw3⟩ : ∃ W, Hid (u2.alloc (.cells #[.int .i64 0, .int .i64 0] 92) = W) := ⟨_, Lib.hid rfl⟩
          rw [hw3.out]
          have zs3 : u2.heap.size < u3.heap.size := by rw [← hw3.out, World.size_alloc]; omega
          have HBl3 : Hid (Below w.heap.size w u3) := Lib.hid (by rw [← hw3.out]; exact HBl2.out.alloc HBl2.out.size _)
          have HX_p3 : Hid (Bx u3 w.heap.size #[.int .i64 x, .int .i64 c, .int .i64 r] 52) := Lib.hid (by rw [← hw3.out]; exact HX_p2.out.alloc _)
          have HX_q3 : Hid (Bx u3 (w.heap.size + 1) #[.int .i64 y, .int .i64 d, .int .i64 s] 52) := Lib.hid (by rw [← hw3.out]; exact HX_q2.out.alloc _)
          have HX_a3 : Hid (Bx u3 u2.heap.size #[.int .i64 0, .int .i64 0] 92) := Lib.hid (by rw [← hw3.out]; exact Bx.new _ _ _)
          have hab3 : Below u2.heap.size u2 u3 := by rw [← hw3.out]; exact (Below.refl _ _).alloc (Nat.le_refl _) _
          clear hHeld hw3 hab3 HBl2 HX_p2 HX_q2
          refine hK.out _ _ ⟨HX_p3.out.cell 0, HX_p3.out.cell 1, HX_p3.out.cell 2, HX_q3.out.cell 0, HX_q3.out.cell 1, HX_q3.out.cell 2⟩ (fun hHeld => ?_)
          clear hK K
          try simp only [Act.put, List.setIfInBounds_toArray, List.set_cons_zero, List.set_cons_succ]
          refine wpAnyH_ready (rs := [5]) (by kernel_rfl) (by simp) ?_
          refine AllReadyH.cons (o := { dst := some 9, op := Op.alloc 92, type := 0, pos := "l14_knowledge.go:105", after := #[], guard := none }) rfl (fun K hK => ?_) ?_
          · go_simp
            obtain ⟨u4, hw4⟩ : ∃ W, Hid (u3.alloc (.cells #[.int .i64 0, .int .i64 0] 92) = W) := ⟨_, Lib.hid rfl⟩
            rw [hw4.out]
            have zs4 : u3.heap.size < u4.heap.size := by rw [← hw4.out, World.size_alloc]; omega
            have HBl4 : Hid (Below w.heap.size w u4) := Lib.hid (by rw [← hw4.out]; exact HBl3.out.alloc HBl3.out.size _)
            have HX_p4 : Hid (Bx u4 w.heap.size #[.int .i64 x, .int .i64 c, .int .i64 r] 52) := Lib.hid (by rw [← hw4.out]; exact HX_p3.out.alloc _)
            have HX_q4 : Hid (Bx u4 (w.heap.size + 1) #[.int .i64 y, .int .i64 d, .int .i64 s] 52) := Lib.hid (by rw [← hw4.out]; exact HX_q3.out.alloc _)
            have HX_a4 : Hid (Bx u4 u2.heap.size #[.int .i64 0, .int .i64 0] 92) := Lib.hid (by rw [← hw4.out]; exact HX_a3.out.alloc _)
            have HX_b4 : Hid (Bx u4 u3.heap.size #[.int .i64 0, .int .i64 0] 92) := Lib.hid (by rw [← hw4.out]; exact Bx.new _ _ _)
            have hab4 : Below u3.heap.size u3 u4 := by rw [← hw4.out]; exact (Below.refl _ _).alloc (Nat.le_refl _) _
            clear hHeld hw4 hab4 HBl3 HX_p3 HX_q3 HX_a3
            refine hK.out _ _ ⟨HX_p4.out.cell 0, HX_p4.out.cell 1, HX_p4.out.cell 2, HX_q4.out.cell 0, HX_q4.out.cell 1, HX_q4.out.cell 2⟩ (fun hHeld => ?_)
            clear hK K
            try simp only [Act.put, List.setIfInBounds_toArray, List.set_cons_zero, List.set_cons_succ]
            refine wpAnyH_ready (rs := [6]) (by kernel_rfl) (by simp) ?_
            refine AllReadyH.cons (o := { dst := none, op := Op.store 92 (Operand.tmp 8) (Operand.tmp 35), type := 0, pos := "l14_knowledge.go:105", after := #[{ on := 4, ground := Ground.data }, { on := 1, ground := Ground.data }, { on := 3, ground := Ground.chain }, { on := 0, ground := Ground.phase }, { on := 1, ground := Ground.phase }, { on := 2, ground := Ground.textOnly Departure.lateStores }, { on := 3, ground := Ground.textOnly Departure.lateStoresUnsure }, { on := 4, ground := Ground.phase }, { on := 5, ground := Ground.phase }], guard := none }) rfl (fun K hK => ?_) ?_
            · have xc0 : u4.cell? ⟨u2.heap.size, 0, none⟩ = some (.int .i64 0) := HX_a4.out.cell 0
              have xf0 : u4.frozen? ⟨u2.heap.size, 0, none⟩ = false := HX_a4.out.free 0
              have xc1 : u4.cell? ⟨u2.heap.size, 1, none⟩ = some (.int .i64 0) := HX_a4.out.cell 1
              have xf1 : u4.frozen? ⟨u2.heap.size, 1, none⟩ = false := HX_a4.out.free 1
              go_simp
              obtain ⟨u5, hw5⟩ : ∃ W, Hid (((u4.setCell ⟨u2.heap.size, 0, none⟩ (.int .i64 c)).setCell ⟨u2.heap.size, 1, none⟩ (.int .i64 r)) = W) := ⟨_, Lib.hid rfl⟩
              rw [hw5.out]
              have hk5 : Kept (u2.heap.size) (u2.heap.size + 1) u4 u5 := by rw [← hw5.out]; exact ((Kept.refl _ _ _).setCell (p := ⟨u2.heap.size, 0, none⟩) (Nat.le_refl _) (Nat.lt_succ_self _) _).setCell (p := ⟨u2.heap.size, 1, none⟩) (Nat.le_refl _) (Nat.lt_succ_self _) _
              have zs5 : u4.heap.size ≤ u5.heap.size := hk5.size
              have hlo5 := HBl4.out.size
              have HBl5 : Hid (Below w.heap.size w u5) := Lib.hid (HBl4.out.trans ((hk5.to_below (by have := HX_a4.out.lt; omega)).mono (by omega)))
              have HX_a5 : Hid (Bx u5 u2.heap.size #[.int .i64 c, .int .i64 r] 92) := Lib.hid (by have := ((HX_a4.out).set 0 (.int .i64 c)).set 1 (.int .i64 r); rw [hw5.out] at this; exact this)
              have HX_p5 : Hid (Bx u5 w.heap.size #[.int .i64 x, .int .i64 c, .int .i64 r] 52) := Lib.hid (HX_p4.out.kept hk5 (by have := HX_p4.out.lt; have := HX_q4.out.lt; have := HX_a4.out.lt; have := HX_b4.out.lt; omega))
              have HX_q5 : Hid (Bx u5 (w.heap.size + 1) #[.int .i64 y, .int .i64 d, .int .i64 s] 52) := Lib.hid (HX_q4.out.kept hk5 (by have := HX_p4.out.lt; have := HX_q4.out.lt; have := HX_a4.out.lt; have := HX_b4.out.lt; omega))
              have HX_b5 : Hid (Bx u5 u3.heap.size #[.int .i64 0, .int .i64 0] 92) := Lib.hid (HX_b4.out.kept hk5 (by have := HX_p4.out.lt; have := HX_q4.out.lt; have := HX_a4.out.lt; have := HX_b4.out.lt; omega))
              clear hHeld hw5 hk5 hlo5 xc0 xf0 xc1 xf1 HBl4 HX_p4 HX_q4 HX_a4 HX_b4
              refine hK.out _ _ ⟨HX_p5.out.cell 0, HX_p5.out.cell 1, HX_p5.out.cell 2, HX_q5.out.cell 0, HX_q5.out.cell 1, HX_q5.out.cell 2⟩ (fun hHeld => ?_)
              clear hK K
              try simp only [Act.put]
              refine wpAnyH_ready (rs := [7]) (by kernel_rfl) (by simp) ?_
              refine AllReadyH.cons (o := { dst := none, op := Op.store 92 (Operand.tmp 9) (Operand.tmp 37), type := 0, pos := "l14_knowledge.go:105", after := #[{ on := 5, ground := Ground.data }, { on := 3, ground := Ground.data }, { on := 6, ground := Ground.chain }, { on := 0, ground := Ground.phase }, { on := 1, ground := Ground.phase }, { on := 2, ground := Ground.phase }, { on := 3, ground := Ground.phase }, { on := 4, ground := Ground.phase }, { on := 5, ground := Ground.phase }, { on := 6, ground := Ground.phase }], guard := none }) rfl (fun K hK => ?_) ?_
              · have xc0 : u5.cell? ⟨u3.heap.size, 0, none⟩ = some (.int .i64 0) := HX_b5.out.cell 0
                have xf0 : u5.frozen? ⟨u3.heap.size, 0, none⟩ = false := HX_b5.out.free 0
                have xc1 : u5.cell? ⟨u3.heap.size, 1, none⟩ = some (.int .i64 0) := HX_b5.out.cell 1
                have xf1 : u5.frozen? ⟨u3.heap.size, 1, none⟩ = false := HX_b5.out.free 1
                go_simp
                obtain ⟨u6, hw6⟩ : ∃ W, Hid (((u5.setCell ⟨u3.heap.size, 0, none⟩ (.int .i64 d)).setCell ⟨u3.heap.size, 1, none⟩ (.int .i64 s)) = W) := ⟨_, Lib.hid rfl⟩
                rw [hw6.out]
                have hk6 : Kept (u3.heap.size) (u3.heap.size + 1) u5 u6 := by rw [← hw6.out]; exact ((Kept.refl _ _ _).setCell (p := ⟨u3.heap.size, 0, none⟩) (Nat.le_refl _) (Nat.lt_succ_self _) _).setCell (p := ⟨u3.heap.size, 1, none⟩) (Nat.le_refl _) (Nat.lt_succ_self _) _
                have zs6 : u5.heap.size ≤ u6.heap.size := hk6.size
                have hlo6 := HBl5.out.size
                have HBl6 : Hid (Below w.heap.size w u6) := Lib.hid (HBl5.out.trans ((hk6.to_below (by have := HX_b5.out.lt; omega)).mono (by omega)))
                have HX_b6 : Hid (Bx u6 u3.heap.size #[.int .i64 d, .int .i64 s] 92) := Lib.hid (by have := ((HX_b5.out).set 0 (.int .i64 d)).set 1 (.int .i64 s); rw [hw6.out] at this; exact this)
                have HX_p6 : Hid (Bx u6 w.heap.size #[.int .i64 x, .int .i64 c, .int .i64 r] 52) := Lib.hid (HX_p5.out.kept hk6 (by have := HX_p5.out.lt; have := HX_q5.out.lt; have := HX_a5.out.lt; have := HX_b5.out.lt; omega))
                have HX_q6 : Hid (Bx u6 (w.heap.size + 1) #[.int .i64 y, .int .i64 d, .int .i64 s] 52) := Lib.hid (HX_q5.out.kept hk6 (by have := HX_p5.out.lt; have := HX_q5.out.lt; have := HX_a5.out.lt; have := HX_b5.out.lt; omega))
                have HX_a6 : Hid (Bx u6 u2.heap.size #[.int .i64 c, .int .i64 r] 92) := Lib.hid (HX_a5.out.kept hk6 (by have := HX_p5.out.lt; have := HX_q5.out.lt; have := HX_a5.out.lt; have := HX_b5.out.lt; omega))
                clear hHeld hw6 hk6 hlo6 xc0 xf0 xc1 xf1 HBl5 HX_p5 HX_q5 HX_a5 HX_b5
                refine hK.out _ _ ⟨HX_p6.out.cell 0, HX_p6.out.cell 1, HX_p6.out.cell 2, HX_q6.out.cell 0, HX_q6.out.cell 1, HX_q6.out.cell 2⟩ (fun hHeld => ?_)
                clear hK K
                try simp only [Act.put]
                refine wpAnyH_done (by kernel_rfl) ?_ _
                go_wp2
                go_meet
                case rel => exact ⟨u2.heap.size, u3.heap.size, rfl, rfl, HX_a6, HX_b6, HBl6⟩
              exact AllReadyH.nil
            exact AllReadyH.nil
          exact AllReadyH.nil
        refine AllReadyH.cons (o := { dst := some 9, op := Op.alloc 92, type := 0, pos := "l14_knowledge.go:105", after := #[], guard := none }) rfl (fun K hK => ?_) ?_
        · go_simp
          obtain ⟨u3, hw3⟩ : ∃ W, Hid (u2.alloc (.cells #[.int .i64 0, .int .i64 0] 92) = W) := ⟨_, Lib.hid rfl⟩
          rw [hw3.out]
          have zs3 : u2.heap.size < u3.heap.size := by rw [← hw3.out, World.size_alloc]; omega
          have HBl3 : Hid (Below w.heap.size w u3) := Lib.hid (by rw [← hw3.out]; exact HBl2.out.alloc HBl2.out.size _)
          have HX_p3 : Hid (Bx u3 w.heap.size #[.int .i64 x, .int .i64 c, .int .i64 r] 52) := Lib.hid (by rw [← hw3.out]; exact HX_p2.out.alloc _)
          have HX_q3 : Hid (Bx u3 (w.heap.size + 1) #[.int .i64 y, .int .i64 d, .int .i64 s] 52) := Lib.hid (by rw [← hw3.out]; exact HX_q2.out.alloc _)
          have HX_b3 : Hid (Bx u3 u2.heap.size #[.int .i64 0, .int .i64 0] 92) := Lib.hid (by rw [← hw3.out]; exact Bx.new _ _ _)
          have hab3 : Below u2.heap.size u2 u3 := by rw [← hw3.out]; exact (Below.refl _ _).alloc (Nat.le_refl _) _
          clear hHeld hw3 hab3 HBl2 HX_p2 HX_q2
          refine hK.out _ _ ⟨HX_p3.out.cell 0, HX_p3.out.cell 1, HX_p3.out.cell 2, HX_q3.out.cell 0, HX_q3.out.cell 1, HX_q3.out.cell 2⟩ (fun hHeld => ?_)
          clear hK K
          try simp only [Act.put, List.setIfInBounds_toArray, List.set_cons_zero, List.set_cons_succ]
          refine wpAnyH_ready (rs := [4]) (by kernel_rfl) (by simp) ?_
          refine AllReadyH.cons (o := { dst := some 8, op := Op.alloc 92, type := 0, pos := "l14_knowledge.go:105", after := #[], guard := none }) rfl (fun K hK => ?_) ?_
          · go_simp
            obtain ⟨u4, hw4⟩ : ∃ W, Hid (u3.alloc (.cells #[.int .i64 0, .int .i64 0] 92) = W) := ⟨_, Lib.hid rfl⟩
            rw [hw4.out]
            have zs4 : u3.heap.size < u4.heap.size := by rw [← hw4.out, World.size_alloc]; omega
            have HBl4 : Hid (Below w.heap.size w u4) := Lib.hid (by rw [← hw4.out]; exact HBl3.out.alloc HBl3.out.size _)
            have HX_p4 : Hid (Bx u4 w.heap.size #[.int .i64 x, .int .i64 c, .int .i64 r] 52) := Lib.hid (by rw [← hw4.out]; exact HX_p3.out.alloc _)
            have HX_q4 : Hid (Bx u4 (w.heap.size + 1) #[.int .i64 y, .int .i64 d, .int .i64 s] 52) := Lib.hid (by rw [← hw4.out]; exact HX_q3.out.alloc _)
            have HX_b4 : Hid (Bx u4 u2.heap.size #[.int .i64 0, .int .i64 0] 92) := Lib.hid (by rw [← hw4.out]; exact HX_b3.out.alloc _)
            have HX_a4 : Hid (Bx u4 u3.heap.size #[.int .i64 0, .int .i64 0] 92) := Lib.hid (by rw [← hw4.out]; exact Bx.new _ _ _)
            have hab4 : Below u3.heap.size u3 u4 := by rw [← hw4.out]; exact (Below.refl _ _).alloc (Nat.le_refl _) _
            clear hHeld hw4 hab4 HBl3 HX_p3 HX_q3 HX_b3
            refine hK.out _ _ ⟨HX_p4.out.cell 0, HX_p4.out.cell 1, HX_p4.out.cell 2, HX_q4.out.cell 0, HX_q4.out.cell 1, HX_q4.out.cell 2⟩ (fun hHeld => ?_)
            clear hK K
            try simp only [Act.put, List.setIfInBounds_toArray, List.set_cons_zero, List.set_cons_succ]
            refine wpAnyH_ready (rs := [6]) (by kernel_rfl) (by simp) ?_
            refine AllReadyH.cons (o := { dst := none, op := Op.store 92 (Operand.tmp 8) (Operand.tmp 35), type := 0, pos := "l14_knowledge.go:105", after := #[{ on := 4, ground := Ground.data }, { on := 1, ground := Ground.data }, { on := 3, ground := Ground.chain }, { on := 0, ground := Ground.phase }, { on := 1, ground := Ground.phase }, { on := 2, ground := Ground.textOnly Departure.lateStores }, { on := 3, ground := Ground.textOnly Departure.lateStoresUnsure }, { on := 4, ground := Ground.phase }, { on := 5, ground := Ground.phase }], guard := none }) rfl (fun K hK => ?_) ?_
            · have xc0 : u4.cell? ⟨u3.heap.size, 0, none⟩ = some (.int .i64 0) := HX_a4.out.cell 0
              have xf0 : u4.frozen? ⟨u3.heap.size, 0, none⟩ = false := HX_a4.out.free 0
              have xc1 : u4.cell? ⟨u3.heap.size, 1, none⟩ = some (.int .i64 0) := HX_a4.out.cell 1
              have xf1 : u4.frozen? ⟨u3.heap.size, 1, none⟩ = false := HX_a4.out.free 1
              go_simp
              obtain ⟨u5, hw5⟩ : ∃ W, Hid (((u4.setCell ⟨u3.heap.size, 0, none⟩ (.int .i64 c)).setCell ⟨u3.heap.size, 1, none⟩ (.int .i64 r)) = W) := ⟨_, Lib.hid rfl⟩
              rw [hw5.out]
              have hk5 : Kept (u3.heap.size) (u3.heap.size + 1) u4 u5 := by rw [← hw5.out]; exact ((Kept.refl _ _ _).setCell (p := ⟨u3.heap.size, 0, none⟩) (Nat.le_refl _) (Nat.lt_succ_self _) _).setCell (p := ⟨u3.heap.size, 1, none⟩) (Nat.le_refl _) (Nat.lt_succ_self _) _
              have zs5 : u4.heap.size ≤ u5.heap.size := hk5.size
              have hlo5 := HBl4.out.size
              have HBl5 : Hid (Below w.heap.size w u5) := Lib.hid (HBl4.out.trans ((hk5.to_below (by have := HX_a4.out.lt; omega)).mono (by omega)))
              have HX_a5 : Hid (Bx u5 u3.heap.size #[.int .i64 c, .int .i64 r] 92) := Lib.hid (by have := ((HX_a4.out).set 0 (.int .i64 c)).set 1 (.int .i64 r); rw [hw5.out] at this; exact this)
              have HX_p5 : Hid (Bx u5 w.heap.size #[.int .i64 x, .int .i64 c, .int .i64 r] 52) := Lib.hid (HX_p4.out.kept hk5 (by have := HX_p4.out.lt; have := HX_q4.out.lt; have := HX_b4.out.lt; have := HX_a4.out.lt; omega))
              have HX_q5 : Hid (Bx u5 (w.heap.size + 1) #[.int .i64 y, .int .i64 d, .int .i64 s] 52) := Lib.hid (HX_q4.out.kept hk5 (by have := HX_p4.out.lt; have := HX_q4.out.lt; have := HX_b4.out.lt; have := HX_a4.out.lt; omega))
              have HX_b5 : Hid (Bx u5 u2.heap.size #[.int .i64 0, .int .i64 0] 92) := Lib.hid (HX_b4.out.kept hk5 (by have := HX_p4.out.lt; have := HX_q4.out.lt; have := HX_b4.out.lt; have := HX_a4.out.lt; omega))
              clear hHeld hw5 hk5 hlo5 xc0 xf0 xc1 xf1 HBl4 HX_p4 HX_q4 HX_b4 HX_a4
              refine hK.out _ _ ⟨HX_p5.out.cell 0, HX_p5.out.cell 1, HX_p5.out.cell 2, HX_q5.out.cell 0, HX_q5.out.cell 1, HX_q5.out.cell 2⟩ (fun hHeld => ?_)
              clear hK K
              try simp only [Act.put]
              refine wpAnyH_ready (rs := [7]) (by kernel_rfl) (by simp) ?_
              refine AllReadyH.cons (o := { dst := none, op := Op.store 92 (Operand.tmp 9) (Operand.tmp 37), type := 0, pos := "l14_knowledge.go:105", after := #[{ on := 5, ground := Ground.data }, { on := 3, ground := Ground.data }, { on := 6, ground := Ground.chain }, { on := 0, ground := Ground.phase }, { on := 1, ground := Ground.phase }, { on := 2, ground := Ground.phase }, { on := 3, ground := Ground.phase }, { on := 4, ground := Ground.phase }, { on := 5, ground := Ground.phase }, { on := 6, ground := Ground.phase }], guard := none }) rfl (fun K hK => ?_) ?_
              · have xc0 : u5.cell? ⟨u2.heap.size, 0, none⟩ = some (.int .i64 0) := HX_b5.out.cell 0
                have xf0 : u5.frozen? ⟨u2.heap.size, 0, none⟩ = false := HX_b5.out.free 0
                have xc1 : u5.cell? ⟨u2.heap.size, 1, none⟩ = some (.int .i64 0) := HX_b5.out.cell 1
                have xf1 : u5.frozen? ⟨u2.heap.size, 1, none⟩ = false := HX_b5.out.free 1
                go_simp
                obtain ⟨u6, hw6⟩ : ∃ W, Hid (((u5.setCell ⟨u2.heap.size, 0, none⟩ (.int .i64 d)).setCell ⟨u2.heap.size, 1, none⟩ (.int .i64 s)) = W) := ⟨_, Lib.hid rfl⟩
                rw [hw6.out]
                have hk6 : Kept (u2.heap.size) (u2.heap.size + 1) u5 u6 := by rw [← hw6.out]; exact ((Kept.refl _ _ _).setCell (p := ⟨u2.heap.size, 0, none⟩) (Nat.le_refl _) (Nat.lt_succ_self _) _).setCell (p := ⟨u2.heap.size, 1, none⟩) (Nat.le_refl _) (Nat.lt_succ_self _) _
                have zs6 : u5.heap.size ≤ u6.heap.size := hk6.size
                have hlo6 := HBl5.out.size
                have HBl6 : Hid (Below w.heap.size w u6) := Lib.hid (HBl5.out.trans ((hk6.to_below (by have := HX_b5.out.lt; omega)).mono (by omega)))
                have HX_b6 : Hid (Bx u6 u2.heap.size #[.int .i64 d, .int .i64 s] 92) := Lib.hid (by have := ((HX_b5.out).set 0 (.int .i64 d)).set 1 (.int .i64 s); rw [hw6.out] at this; exact this)
                have HX_p6 : Hid (Bx u6 w.heap.size #[.int .i64 x, .int .i64 c, .int .i64 r] 52) := Lib.hid (HX_p5.out.kept hk6 (by have := HX_p5.out.lt; have := HX_q5.out.lt; have := HX_b5.out.lt; have := HX_a5.out.lt; omega))
                have HX_q6 : Hid (Bx u6 (w.heap.size + 1) #[.int .i64 y, .int .i64 d, .int .i64 s] 52) := Lib.hid (HX_q5.out.kept hk6 (by have := HX_p5.out.lt; have := HX_q5.out.lt; have := HX_b5.out.lt; have := HX_a5.out.lt; omega))
                have HX_a6 : Hid (Bx u6 u3.heap.size #[.int .i64 c, .int .i64 r] 92) := Lib.hid (HX_a5.out.kept hk6 (by have := HX_p5.out.lt; have := HX_q5.out.lt; have := HX_b5.out.lt; have := HX_a5.out.lt; omega))
                clear hHeld hw6 hk6 hlo6 xc0 xf0 xc1 xf1 HBl5 HX_p5 HX_q5 HX_b5 HX_a5
                refine hK.out _ _ ⟨HX_p6.out.cell 0, HX_p6.out.cell 1, HX_p6.out.cell 2, HX_q6.out.cell 0, HX_q6.out.cell 1, HX_q6.out.cell 2⟩ (fun hHeld => ?_)
                clear hK K
                try simp only [Act.put]
                refine wpAnyH_done (by kernel_rfl) ?_ _
                go_wp2
                go_meet
                case rel => exact ⟨u3.heap.size, u2.heap.size, rfl, rfl, HX_a6, HX_b6, HBl6⟩
              exact AllReadyH.nil
            exact AllReadyH.nil
          exact AllReadyH.nil
        exact AllReadyH.nil
      refine AllReadyH.cons (o := { dst := some 8, op := Op.alloc 92, type := 0, pos := "l14_knowledge.go:105", after := #[], guard := none }) rfl (fun K hK => ?_) ?_
      · go_simp
        obtain ⟨u2, hw2⟩ : ∃ W, Hid (u1.alloc (.cells #[.int .i64 0, .int .i64 0] 92) = W) := ⟨_, Lib.hid rfl⟩
        rw [hw2.out]
        have zs2 : u1.heap.size < u2.heap.size := by rw [← hw2.out, World.size_alloc]; omega
        have HBl2 : Hid (Below w.heap.size w u2) := Lib.hid (by rw [← hw2.out]; exact HBl1.out.alloc HBl1.out.size _)
        have HX_p2 : Hid (Bx u2 w.heap.size #[.int .i64 x, .int .i64 c, .int .i64 r] 52) := Lib.hid (by rw [← hw2.out]; exact HX_p1.out.alloc _)
        have HX_q2 : Hid (Bx u2 (w.heap.size + 1) #[.int .i64 y, .int .i64 d, .int .i64 s] 52) := Lib.hid (by rw [← hw2.out]; exact HX_q1.out.alloc _)
        have HX_a2 : Hid (Bx u2 u1.heap.size #[.int .i64 0, .int .i64 0] 92) := Lib.hid (by rw [← hw2.out]; exact Bx.new _ _ _)
        have hab2 : Below u1.heap.size u1 u2 := by rw [← hw2.out]; exact (Below.refl _ _).alloc (Nat.le_refl _) _
        clear hHeld hw2 hab2 HBl1 HX_p1 HX_q1
        refine hK.out _ _ ⟨HX_p2.out.cell 0, HX_p2.out.cell 1, HX_p2.out.cell 2, HX_q2.out.cell 0, HX_q2.out.cell 1, HX_q2.out.cell 2⟩ (fun hHeld => ?_)
        clear hK K
        try simp only [Act.put, List.setIfInBounds_toArray, List.set_cons_zero, List.set_cons_succ]
        refine wpAnyH_ready (rs := [3, 5]) (by kernel_rfl) (by simp) ?_
        refine AllReadyH.cons (o := { dst := some 37, op := Op.call { callee := Callee.value (Operand.func 80), args := #[Operand.tmp 36], argTypes := #[52] }, type := 92, pos := "l14_knowledge.go:105", after := #[{ on := 2, ground := Ground.data }, { on := 1, ground := Ground.chain }], guard := none }) rfl (fun K hK => ?_) ?_
        · go_simp
          refine (i_Proof_answer y d s u2).mono ?_
          rintro e u3 ⟨rfl, hb_⟩
          have zs3 : u2.heap.size ≤ u3.heap.size := hb_.size
          have HBl3 : Hid (Below w.heap.size w u3) := Lib.hid (HBl2.out.trans (hb_.mono HBl2.out.size))
          have HX_p3 : Hid (Bx u3 w.heap.size #[.int .i64 x, .int .i64 c, .int .i64 r] 52) := Lib.hid (HX_p2.out.below hb_ HX_p2.out.lt)
          have HX_q3 : Hid (Bx u3 (w.heap.size + 1) #[.int .i64 y, .int .i64 d, .int .i64 s] 52) := Lib.hid (HX_q2.out.below hb_ HX_q2.out.lt)
          have HX_a3 : Hid (Bx u3 u1.heap.size #[.int .i64 0, .int .i64 0] 92) := Lib.hid (HX_a2.out.below hb_ HX_a2.out.lt)
          clear hHeld hb_ HBl2 HX_p2 HX_q2 HX_a2
          (try dsimp only)
          (try go_wp2_with fail)
          refine hK.out _ _ ⟨HX_p3.out.cell 0, HX_p3.out.cell 1, HX_p3.out.cell 2, HX_q3.out.cell 0, HX_q3.out.cell 1, HX_q3.out.cell 2⟩ (fun hHeld => ?_)
          clear hK K
          try simp only [Act.put, List.setIfInBounds_toArray, List.set_cons_zero, List.set_cons_succ]
          refine wpAnyH_ready (rs := [5]) (by kernel_rfl) (by simp) ?_
          refine AllReadyH.cons (o := { dst := some 9, op := Op.alloc 92, type := 0, pos := "l14_knowledge.go:105", after := #[], guard := none }) rfl (fun K hK => ?_) ?_
          · go_simp
            obtain ⟨u4, hw4⟩ : ∃ W, Hid (u3.alloc (.cells #[.int .i64 0, .int .i64 0] 92) = W) := ⟨_, Lib.hid rfl⟩
            rw [hw4.out]
            have zs4 : u3.heap.size < u4.heap.size := by rw [← hw4.out, World.size_alloc]; omega
            have HBl4 : Hid (Below w.heap.size w u4) := Lib.hid (by rw [← hw4.out]; exact HBl3.out.alloc HBl3.out.size _)
            have HX_p4 : Hid (Bx u4 w.heap.size #[.int .i64 x, .int .i64 c, .int .i64 r] 52) := Lib.hid (by rw [← hw4.out]; exact HX_p3.out.alloc _)
            have HX_q4 : Hid (Bx u4 (w.heap.size + 1) #[.int .i64 y, .int .i64 d, .int .i64 s] 52) := Lib.hid (by rw [← hw4.out]; exact HX_q3.out.alloc _)
            have HX_a4 : Hid (Bx u4 u1.heap.size #[.int .i64 0, .int .i64 0] 92) := Lib.hid (by rw [← hw4.out]; exact HX_a3.out.alloc _)
            have HX_b4 : Hid (Bx u4 u3.heap.size #[.int .i64 0, .int .i64 0] 92) := Lib.hid (by rw [← hw4.out]; exact Bx.new _ _ _)
            have hab4 : Below u3.heap.size u3 u4 := by rw [← hw4.out]; exact (Below.refl _ _).alloc (Nat.le_refl _) _
            clear hHeld hw4 hab4 HBl3 HX_p3 HX_q3 HX_a3
            refine hK.out _ _ ⟨HX_p4.out.cell 0, HX_p4.out.cell 1, HX_p4.out.cell 2, HX_q4.out.cell 0, HX_q4.out.cell 1, HX_q4.out.cell 2⟩ (fun hHeld => ?_)
            clear hK K
            try simp only [Act.put, List.setIfInBounds_toArray, List.set_cons_zero, List.set_cons_succ]
            refine wpAnyH_ready (rs := [6]) (by kernel_rfl) (by simp) ?_
            refine AllReadyH.cons (o := { dst := none, op := Op.store 92 (Operand.tmp 8) (Operand.tmp 35), type := 0, pos := "l14_knowledge.go:105", after := #[{ on := 4, ground := Ground.data }, { on := 1, ground := Ground.data }, { on := 3, ground := Ground.chain }, { on := 0, ground := Ground.phase }, { on := 1, ground := Ground.phase }, { on := 2, ground := Ground.textOnly Departure.lateStores }, { on := 3, ground := Ground.textOnly Departure.lateStoresUnsure }, { on := 4, ground := Ground.phase }, { on := 5, ground := Ground.phase }], guard := none }) rfl (fun K hK => ?_) ?_
            · have xc0 : u4.cell? ⟨u1.heap.size, 0, none⟩ = some (.int .i64 0) := HX_a4.out.cell 0
              have xf0 : u4.frozen? ⟨u1.heap.size, 0, none⟩ = false := HX_a4.out.free 0
              have xc1 : u4.cell? ⟨u1.heap.size, 1, none⟩ = some (.int .i64 0) := HX_a4.out.cell 1
              have xf1 : u4.frozen? ⟨u1.heap.size, 1, none⟩ = false := HX_a4.out.free 1
              go_simp
              obtain ⟨u5, hw5⟩ : ∃ W, Hid (((u4.setCell ⟨u1.heap.size, 0, none⟩ (.int .i64 c)).setCell ⟨u1.heap.size, 1, none⟩ (.int .i64 r)) = W) := ⟨_, Lib.hid rfl⟩
              rw [hw5.out]
              have hk5 : Kept (u1.heap.size) (u1.heap.size + 1) u4 u5 := by rw [← hw5.out]; exact ((Kept.refl _ _ _).setCell (p := ⟨u1.heap.size, 0, none⟩) (Nat.le_refl _) (Nat.lt_succ_self _) _).setCell (p := ⟨u1.heap.size, 1, none⟩) (Nat.le_refl _) (Nat.lt_succ_self _) _
              have zs5 : u4.heap.size ≤ u5.heap.size := hk5.size
              have hlo5 := HBl4.out.size
              have HBl5 : Hid (Below w.heap.size w u5) := Lib.hid (HBl4.out.trans ((hk5.to_below (by have := HX_a4.out.lt; omega)).mono (by omega)))
              have HX_a5 : Hid (Bx u5 u1.heap.size #[.int .i64 c, .int .i64 r] 92) := Lib.hid (by have := ((HX_a4.out).set 0 (.int .i64 c)).set 1 (.int .i64 r); rw [hw5.out] at this; exact this)
              have HX_p5 : Hid (Bx u5 w.heap.size #[.int .i64 x, .int .i64 c, .int .i64 r] 52) := Lib.hid (HX_p4.out.kept hk5 (by have := HX_p4.out.lt; have := HX_q4.out.lt; have := HX_a4.out.lt; have := HX_b4.out.lt; omega))
              have HX_q5 : Hid (Bx u5 (w.heap.size + 1) #[.int .i64 y, .int .i64 d, .int .i64 s] 52) := Lib.hid (HX_q4.out.kept hk5 (by have := HX_p4.out.lt; have := HX_q4.out.lt; have := HX_a4.out.lt; have := HX_b4.out.lt; omega))
              have HX_b5 : Hid (Bx u5 u3.heap.size #[.int .i64 0, .int .i64 0] 92) := Lib.hid (HX_b4.out.kept hk5 (by have := HX_p4.out.lt; have := HX_q4.out.lt; have := HX_a4.out.lt; have := HX_b4.out.lt; omega))
              clear hHeld hw5 hk5 hlo5 xc0 xf0 xc1 xf1 HBl4 HX_p4 HX_q4 HX_a4 HX_b4
              refine hK.out _ _ ⟨HX_p5.out.cell 0, HX_p5.out.cell 1, HX_p5.out.cell 2, HX_q5.out.cell 0, HX_q5.out.cell 1, HX_q5.out.cell 2⟩ (fun hHeld => ?_)
              clear hK K
              try simp only [Act.put]
              refine wpAnyH_ready (rs := [7]) (by kernel_rfl) (by simp) ?_
              refine AllReadyH.cons (o := { dst := none, op := Op.store 92 (Operand.tmp 9) (Operand.tmp 37), type := 0, pos := "l14_knowledge.go:105", after := #[{ on := 5, ground := Ground.data }, { on := 3, ground := Ground.data }, { on := 6, ground := Ground.chain }, { on := 0, ground := Ground.phase }, { on := 1, ground := Ground.phase }, { on := 2, ground := Ground.phase }, { on := 3, ground := Ground.phase }, { on := 4, ground := Ground.phase }, { on := 5, ground := Ground.phase }, { on := 6, ground := Ground.phase }], guard := none }) rfl (fun K hK => ?_) ?_
              · have xc0 : u5.cell? ⟨u3.heap.size, 0, none⟩ = some (.int .i64 0) := HX_b5.out.cell 0
                have xf0 : u5.frozen? ⟨u3.heap.size, 0, none⟩ = false := HX_b5.out.free 0
                have xc1 : u5.cell? ⟨u3.heap.size, 1, none⟩ = some (.int .i64 0) := HX_b5.out.cell 1
                have xf1 : u5.frozen? ⟨u3.heap.size, 1, none⟩ = false := HX_b5.out.free 1
                go_simp
                obtain ⟨u6, hw6⟩ : ∃ W, Hid (((u5.setCell ⟨u3.heap.size, 0, none⟩ (.int .i64 d)).setCell ⟨u3.heap.size, 1, none⟩ (.int .i64 s)) = W) := ⟨_, Lib.hid rfl⟩
                rw [hw6.out]
                have hk6 : Kept (u3.heap.size) (u3.heap.size + 1) u5 u6 := by rw [← hw6.out]; exact ((Kept.refl _ _ _).setCell (p := ⟨u3.heap.size, 0, none⟩) (Nat.le_refl _) (Nat.lt_succ_self _) _).setCell (p := ⟨u3.heap.size, 1, none⟩) (Nat.le_refl _) (Nat.lt_succ_self _) _
                have zs6 : u5.heap.size ≤ u6.heap.size := hk6.size
                have hlo6 := HBl5.out.size
                have HBl6 : Hid (Below w.heap.size w u6) := Lib.hid (HBl5.out.trans ((hk6.to_below (by have := HX_b5.out.lt; omega)).mono (by omega)))
                have HX_b6 : Hid (Bx u6 u3.heap.size #[.int .i64 d, .int .i64 s] 92) := Lib.hid (by have := ((HX_b5.out).set 0 (.int .i64 d)).set 1 (.int .i64 s); rw [hw6.out] at this; exact this)
                have HX_p6 : Hid (Bx u6 w.heap.size #[.int .i64 x, .int .i64 c, .int .i64 r] 52) := Lib.hid (HX_p5.out.kept hk6 (by have := HX_p5.out.lt; have := HX_q5.out.lt; have := HX_a5.out.lt; have := HX_b5.out.lt; omega))
                have HX_q6 : Hid (Bx u6 (w.heap.size + 1) #[.int .i64 y, .int .i64 d, .int .i64 s] 52) := Lib.hid (HX_q5.out.kept hk6 (by have := HX_p5.out.lt; have := HX_q5.out.lt; have := HX_a5.out.lt; have := HX_b5.out.lt; omega))
                have HX_a6 : Hid (Bx u6 u1.heap.size #[.int .i64 c, .int .i64 r] 92) := Lib.hid (HX_a5.out.kept hk6 (by have := HX_p5.out.lt; have := HX_q5.out.lt; have := HX_a5.out.lt; have := HX_b5.out.lt; omega))
                clear hHeld hw6 hk6 hlo6 xc0 xf0 xc1 xf1 HBl5 HX_p5 HX_q5 HX_a5 HX_b5
                refine hK.out _ _ ⟨HX_p6.out.cell 0, HX_p6.out.cell 1, HX_p6.out.cell 2, HX_q6.out.cell 0, HX_q6.out.cell 1, HX_q6.out.cell 2⟩ (fun hHeld => ?_)
                clear hK K
                try simp only [Act.put]
                refine wpAnyH_done (by kernel_rfl) ?_ _
                go_wp2
                go_meet
                case rel => exact ⟨u1.heap.size, u3.heap.size, rfl, rfl, HX_a6, HX_b6, HBl6⟩
              exact AllReadyH.nil
            exact AllReadyH.nil
          exact AllReadyH.nil
        refine AllReadyH.cons (o := { dst := some 9, op := Op.alloc 92, type := 0, pos := "l14_knowledge.go:105", after := #[], guard := none }) rfl (fun K hK => ?_) ?_
        · go_simp
          obtain ⟨u3, hw3⟩ : ∃ W, Hid (u2.alloc (.cells #[.int .i64 0, .int .i64 0] 92) = W) := ⟨_, Lib.hid rfl⟩
          rw [hw3.out]
          have zs3 : u2.heap.size < u3.heap.size := by rw [← hw3.out, World.size_alloc]; omega
          have HBl3 : Hid (Below w.heap.size w u3) := Lib.hid (by rw [← hw3.out]; exact HBl2.out.alloc HBl2.out.size _)
          have HX_p3 : Hid (Bx u3 w.heap.size #[.int .i64 x, .int .i64 c, .int .i64 r] 52) := Lib.hid (by rw [← hw3.out]; exact HX_p2.out.alloc _)
          have HX_q3 : Hid (Bx u3 (w.heap.size + 1) #[.int .i64 y, .int .i64 d, .int .i64 s] 52) := Lib.hid (by rw [← hw3.out]; exact HX_q2.out.alloc _)
          have HX_a3 : Hid (Bx u3 u1.heap.size #[.int .i64 0, .int .i64 0] 92) := Lib.hid (by rw [← hw3.out]; exact HX_a2.out.alloc _)
          have HX_b3 : Hid (Bx u3 u2.heap.size #[.int .i64 0, .int .i64 0] 92) := Lib.hid (by rw [← hw3.out]; exact Bx.new _ _ _)
          have hab3 : Below u2.heap.size u2 u3 := by rw [← hw3.out]; exact (Below.refl _ _).alloc (Nat.le_refl _) _
          clear hHeld hw3 hab3 HBl2 HX_p2 HX_q2 HX_a2
          refine hK.out _ _ ⟨HX_p3.out.cell 0, HX_p3.out.cell 1, HX_p3.out.cell 2, HX_q3.out.cell 0, HX_q3.out.cell 1, HX_q3.out.cell 2⟩ (fun hHeld => ?_)
          clear hK K
          try simp only [Act.put, List.setIfInBounds_toArray, List.set_cons_zero, List.set_cons_succ]
          refine wpAnyH_ready (rs := [3]) (by kernel_rfl) (by simp) ?_
          refine AllReadyH.cons (o := { dst := some 37, op := Op.call { callee := Callee.value (Operand.func 80), args := #[Operand.tmp 36], argTypes := #[52] }, type := 92, pos := "l14_knowledge.go:105", after := #[{ on := 2, ground := Ground.data }, { on := 1, ground := Ground.chain }], guard := none }) rfl (fun K hK => ?_) ?_
          · go_simp
            refine (i_Proof_answer y d s u3).mono ?_
            rintro e u4 ⟨rfl, hb_⟩
            have zs4 : u3.heap.size ≤ u4.heap.size := hb_.size
            have HBl4 : Hid (Below w.heap.size w u4) := Lib.hid (HBl3.out.trans (hb_.mono HBl3.out.size))
            have HX_p4 : Hid (Bx u4 w.heap.size #[.int .i64 x, .int .i64 c, .int .i64 r] 52) := Lib.hid (HX_p3.out.below hb_ HX_p3.out.lt)
            have HX_q4 : Hid (Bx u4 (w.heap.size + 1) #[.int .i64 y, .int .i64 d, .int .i64 s] 52) := Lib.hid (HX_q3.out.below hb_ HX_q3.out.lt)
            have HX_a4 : Hid (Bx u4 u1.heap.size #[.int .i64 0, .int .i64 0] 92) := Lib.hid (HX_a3.out.below hb_ HX_a3.out.lt)
            have HX_b4 : Hid (Bx u4 u2.heap.size #[.int .i64 0, .int .i64 0] 92) := Lib.hid (HX_b3.out.below hb_ HX_b3.out.lt)
            clear hHeld hb_ HBl3 HX_p3 HX_q3 HX_a3 HX_b3
            (try dsimp only)
            (try go_wp2_with fail)
            refine hK.out _ _ ⟨HX_p4.out.cell 0, HX_p4.out.cell 1, HX_p4.out.cell 2, HX_q4.out.cell 0, HX_q4.out.cell 1, HX_q4.out.cell 2⟩ (fun hHeld => ?_)
            clear hK K
            try simp only [Act.put, List.setIfInBounds_toArray, List.set_cons_zero, List.set_cons_succ]
            refine wpAnyH_ready (rs := [6]) (by kernel_rfl) (by simp) ?_
            refine AllReadyH.cons (o := { dst := none, op := Op.store 92 (Operand.tmp 8) (Operand.tmp 35), type := 0, pos := "l14_knowledge.go:105", after := #[{ on := 4, ground := Ground.data }, { on := 1, ground := Ground.data }, { on := 3, ground := Ground.chain }, { on := 0, ground := Ground.phase }, { on := 1, ground := Ground.phase }, { on := 2, ground := Ground.textOnly Departure.lateStores }, { on := 3, ground := Ground.textOnly Departure.lateStoresUnsure }, { on := 4, ground := Ground.phase }, { on := 5, ground := Ground.phase }], guard := none }) rfl (fun K hK => ?_) ?_
            · have xc0 : u4.cell? ⟨u1.heap.size, 0, none⟩ = some (.int .i64 0) := HX_a4.out.cell 0
              have xf0 : u4.frozen? ⟨u1.heap.size, 0, none⟩ = false := HX_a4.out.free 0
              have xc1 : u4.cell? ⟨u1.heap.size, 1, none⟩ = some (.int .i64 0) := HX_a4.out.cell 1
              have xf1 : u4.frozen? ⟨u1.heap.size, 1, none⟩ = false := HX_a4.out.free 1
              go_simp
              obtain ⟨u5, hw5⟩ : ∃ W, Hid (((u4.setCell ⟨u1.heap.size, 0, none⟩ (.int .i64 c)).setCell ⟨u1.heap.size, 1, none⟩ (.int .i64 r)) = W) := ⟨_, Lib.hid rfl⟩
              rw [hw5.out]
              have hk5 : Kept (u1.heap.size) (u1.heap.size + 1) u4 u5 := by rw [← hw5.out]; exact ((Kept.refl _ _ _).setCell (p := ⟨u1.heap.size, 0, none⟩) (Nat.le_refl _) (Nat.lt_succ_self _) _).setCell (p := ⟨u1.heap.size, 1, none⟩) (Nat.le_refl _) (Nat.lt_succ_self _) _
              have zs5 : u4.heap.size ≤ u5.heap.size := hk5.size
              have hlo5 := HBl4.out.size
              have HBl5 : Hid (Below w.heap.size w u5) := Lib.hid (HBl4.out.trans ((hk5.to_below (by have := HX_a4.out.lt; omega)).mono (by omega)))
              have HX_a5 : Hid (Bx u5 u1.heap.size #[.int .i64 c, .int .i64 r] 92) := Lib.hid (by have := ((HX_a4.out).set 0 (.int .i64 c)).set 1 (.int .i64 r); rw [hw5.out] at this; exact this)
              have HX_p5 : Hid (Bx u5 w.heap.size #[.int .i64 x, .int .i64 c, .int .i64 r] 52) := Lib.hid (HX_p4.out.kept hk5 (by have := HX_p4.out.lt; have := HX_q4.out.lt; have := HX_a4.out.lt; have := HX_b4.out.lt; omega))
              have HX_q5 : Hid (Bx u5 (w.heap.size + 1) #[.int .i64 y, .int .i64 d, .int .i64 s] 52) := Lib.hid (HX_q4.out.kept hk5 (by have := HX_p4.out.lt; have := HX_q4.out.lt; have := HX_a4.out.lt; have := HX_b4.out.lt; omega))
              have HX_b5 : Hid (Bx u5 u2.heap.size #[.int .i64 0, .int .i64 0] 92) := Lib.hid (HX_b4.out.kept hk5 (by have := HX_p4.out.lt; have := HX_q4.out.lt; have := HX_a4.out.lt; have := HX_b4.out.lt; omega))
              clear hHeld hw5 hk5 hlo5 xc0 xf0 xc1 xf1 HBl4 HX_p4 HX_q4 HX_a4 HX_b4
              refine hK.out _ _ ⟨HX_p5.out.cell 0, HX_p5.out.cell 1, HX_p5.out.cell 2, HX_q5.out.cell 0, HX_q5.out.cell 1, HX_q5.out.cell 2⟩ (fun hHeld => ?_)
              clear hK K
              try simp only [Act.put]
              refine wpAnyH_ready (rs := [7]) (by kernel_rfl) (by simp) ?_
              refine AllReadyH.cons (o := { dst := none, op := Op.store 92 (Operand.tmp 9) (Operand.tmp 37), type := 0, pos := "l14_knowledge.go:105", after := #[{ on := 5, ground := Ground.data }, { on := 3, ground := Ground.data }, { on := 6, ground := Ground.chain }, { on := 0, ground := Ground.phase }, { on := 1, ground := Ground.phase }, { on := 2, ground := Ground.phase }, { on := 3, ground := Ground.phase }, { on := 4, ground := Ground.phase }, { on := 5, ground := Ground.phase }, { on := 6, ground := Ground.phase }], guard := none }) rfl (fun K hK => ?_) ?_
              · have xc0 : u5.cell? ⟨u2.heap.size, 0, none⟩ = some (.int .i64 0) := HX_b5.out.cell 0
                have xf0 : u5.frozen? ⟨u2.heap.size, 0, none⟩ = false := HX_b5.out.free 0
                have xc1 : u5.cell? ⟨u2.heap.size, 1, none⟩ = some (.int .i64 0) := HX_b5.out.cell 1
                have xf1 : u5.frozen? ⟨u2.heap.size, 1, none⟩ = false := HX_b5.out.free 1
                go_simp
                obtain ⟨u6, hw6⟩ : ∃ W, Hid (((u5.setCell ⟨u2.heap.size, 0, none⟩ (.int .i64 d)).setCell ⟨u2.heap.size, 1, none⟩ (.int .i64 s)) = W) := ⟨_, Lib.hid rfl⟩
                rw [hw6.out]
                have hk6 : Kept (u2.heap.size) (u2.heap.size + 1) u5 u6 := by rw [← hw6.out]; exact ((Kept.refl _ _ _).setCell (p := ⟨u2.heap.size, 0, none⟩) (Nat.le_refl _) (Nat.lt_succ_self _) _).setCell (p := ⟨u2.heap.size, 1, none⟩) (Nat.le_refl _) (Nat.lt_succ_self _) _
                have zs6 : u5.heap.size ≤ u6.heap.size := hk6.size
                have hlo6 := HBl5.out.size
                have HBl6 : Hid (Below w.heap.size w u6) := Lib.hid (HBl5.out.trans ((hk6.to_below (by have := HX_b5.out.lt; omega)).mono (by omega)))
                have HX_b6 : Hid (Bx u6 u2.heap.size #[.int .i64 d, .int .i64 s] 92) := Lib.hid (by have := ((HX_b5.out).set 0 (.int .i64 d)).set 1 (.int .i64 s); rw [hw6.out] at this; exact this)
                have HX_p6 : Hid (Bx u6 w.heap.size #[.int .i64 x, .int .i64 c, .int .i64 r] 52) := Lib.hid (HX_p5.out.kept hk6 (by have := HX_p5.out.lt; have := HX_q5.out.lt; have := HX_a5.out.lt; have := HX_b5.out.lt; omega))
                have HX_q6 : Hid (Bx u6 (w.heap.size + 1) #[.int .i64 y, .int .i64 d, .int .i64 s] 52) := Lib.hid (HX_q5.out.kept hk6 (by have := HX_p5.out.lt; have := HX_q5.out.lt; have := HX_a5.out.lt; have := HX_b5.out.lt; omega))
                have HX_a6 : Hid (Bx u6 u1.heap.size #[.int .i64 c, .int .i64 r] 92) := Lib.hid (HX_a5.out.kept hk6 (by have := HX_p5.out.lt; have := HX_q5.out.lt; have := HX_a5.out.lt; have := HX_b5.out.lt; omega))
                clear hHeld hw6 hk6 hlo6 xc0 xf0 xc1 xf1 HBl5 HX_p5 HX_q5 HX_a5 HX_b5
                refine hK.out _ _ ⟨HX_p6.out.cell 0, HX_p6.out.cell 1, HX_p6.out.cell 2, HX_q6.out.cell 0, HX_q6.out.cell 1, HX_q6.out.cell 2⟩ (fun hHeld => ?_)
                clear hK K
                try simp only [Act.put]
                refine wpAnyH_done (by kernel_rfl) ?_ _
                go_wp2
                go_meet
                case rel => exact ⟨u1.heap.size, u2.heap.size, rfl, rfl, HX_a6, HX_b6, HBl6⟩
              exact AllReadyH.nil
            exact AllReadyH.nil
          exact AllReadyH.nil
        exact AllReadyH.nil
      refine AllReadyH.cons (o := { dst := some 9, op := Op.alloc 92, type := 0, pos := "l14_knowledge.go:105", after := #[], guard := none }) rfl (fun K hK => ?_) ?_
      · go_simp
        obtain ⟨u2, hw2⟩ : ∃ W, Hid (u1.alloc (.cells #[.int .i64 0, .int .i64 0] 92) = W) := ⟨_, Lib.hid rfl⟩
        rw [hw2.out]
        have zs2 : u1.heap.size < u2.heap.size := by rw [← hw2.out, World.size_alloc]; omega
        have HBl2 : Hid (Below w.heap.size w u2) := Lib.hid (by rw [← hw2.out]; exact HBl1.out.alloc HBl1.out.size _)
        have HX_p2 : Hid (Bx u2 w.heap.size #[.int .i64 x, .int .i64 c, .int .i64 r] 52) := Lib.hid (by rw [← hw2.out]; exact HX_p1.out.alloc _)
        have HX_q2 : Hid (Bx u2 (w.heap.size + 1) #[.int .i64 y, .int .i64 d, .int .i64 s] 52) := Lib.hid (by rw [← hw2.out]; exact HX_q1.out.alloc _)
        have HX_b2 : Hid (Bx u2 u1.heap.size #[.int .i64 0, .int .i64 0] 92) := Lib.hid (by rw [← hw2.out]; exact Bx.new _ _ _)
        have hab2 : Below u1.heap.size u1 u2 := by rw [← hw2.out]; exact (Below.refl _ _).alloc (Nat.le_refl _) _
        clear hHeld hw2 hab2 HBl1 HX_p1 HX_q1
        refine hK.out _ _ ⟨HX_p2.out.cell 0, HX_p2.out.cell 1, HX_p2.out.cell 2, HX_q2.out.cell 0, HX_q2.out.cell 1, HX_q2.out.cell 2⟩ (fun hHeld => ?_)
        clear hK K
        try simp only [Act.put, List.setIfInBounds_toArray, List.set_cons_zero, List.set_cons_succ]
        refine wpAnyH_ready (rs := [3, 4]) (by kernel_rfl) (by simp) ?_
        refine AllReadyH.cons (o := { dst := some 37, op := Op.call { callee := Callee.value (Operand.func 80), args := #[Operand.tmp 36], argTypes := #[52] }, type := 92, pos := "l14_knowledge.go:105", after := #[{ on := 2, ground := Ground.data }, { on := 1, ground := Ground.chain }], guard := none }) rfl (fun K hK => ?_) ?_
        · go_simp
          refine (i_Proof_answer y d s u2).mono ?_
          rintro e u3 ⟨rfl, hb_⟩
          have zs3 : u2.heap.size ≤ u3.heap.size := hb_.size
          have HBl3 : Hid (Below w.heap.size w u3) := Lib.hid (HBl2.out.trans (hb_.mono HBl2.out.size))
          have HX_p3 : Hid (Bx u3 w.heap.size #[.int .i64 x, .int .i64 c, .int .i64 r] 52) := Lib.hid (HX_p2.out.below hb_ HX_p2.out.lt)
          have HX_q3 : Hid (Bx u3 (w.heap.size + 1) #[.int .i64 y, .int .i64 d, .int .i64 s] 52) := Lib.hid (HX_q2.out.below hb_ HX_q2.out.lt)
          have HX_b3 : Hid (Bx u3 u1.heap.size #[.int .i64 0, .int .i64 0] 92) := Lib.hid (HX_b2.out.below hb_ HX_b2.out.lt)
          clear hHeld hb_ HBl2 HX_p2 HX_q2 HX_b2
          (try dsimp only)
          (try go_wp2_with fail)
          refine hK.out _ _ ⟨HX_p3.out.cell 0, HX_p3.out.cell 1, HX_p3.out.cell 2, HX_q3.out.cell 0, HX_q3.out.cell 1, HX_q3.out.cell 2⟩ (fun hHeld => ?_)
          clear hK K
          try simp only [Act.put, List.setIfInBounds_toArray, List.set_cons_zero, List.set_cons_succ]
          refine wpAnyH_ready (rs := [4]) (by kernel_rfl) (by simp) ?_
          refine AllReadyH.cons (o := { dst := some 8, op := Op.alloc 92, type := 0, pos := "l14_knowledge.go:105", after := #[], guard := none }) rfl (fun K hK => ?_) ?_
          · go_simp
            obtain ⟨u4, hw4⟩ : ∃ W, Hid (u3.alloc (.cells #[.int .i64 0, .int .i64 0] 92) = W) := ⟨_, Lib.hid rfl⟩
            rw [hw4.out]
            have zs4 : u3.heap.size < u4.heap.size := by rw [← hw4.out, World.size_alloc]; omega
            have HBl4 : Hid (Below w.heap.size w u4) := Lib.hid (by rw [← hw4.out]; exact HBl3.out.alloc HBl3.out.size _)
            have HX_p4 : Hid (Bx u4 w.heap.size #[.int .i64 x, .int .i64 c, .int .i64 r] 52) := Lib.hid (by rw [← hw4.out]; exact HX_p3.out.alloc _)
            have HX_q4 : Hid (Bx u4 (w.heap.size + 1) #[.int .i64 y, .int .i64 d, .int .i64 s] 52) := Lib.hid (by rw [← hw4.out]; exact HX_q3.out.alloc _)
            have HX_b4 : Hid (Bx u4 u1.heap.size #[.int .i64 0, .int .i64 0] 92) := Lib.hid (by rw [← hw4.out]; exact HX_b3.out.alloc _)
            have HX_a4 : Hid (Bx u4 u3.heap.size #[.int .i64 0, .int .i64 0] 92) := Lib.hid (by rw [← hw4.out]; exact Bx.new _ _ _)
            have hab4 : Below u3.heap.size u3 u4 := by rw [← hw4.out]; exact (Below.refl _ _).alloc (Nat.le_refl _) _
            clear hHeld hw4 hab4 HBl3 HX_p3 HX_q3 HX_b3
            refine hK.out _ _ ⟨HX_p4.out.cell 0, HX_p4.out.cell 1, HX_p4.out.cell 2, HX_q4.out.cell 0, HX_q4.out.cell 1, HX_q4.out.cell 2⟩ (fun hHeld => ?_)
            clear hK K
            try simp only [Act.put, List.setIfInBounds_toArray, List.set_cons_zero, List.set_cons_succ]
            refine wpAnyH_ready (rs := [6]) (by kernel_rfl) (by simp) ?_
            refine AllReadyH.cons (o := { dst := none, op := Op.store 92 (Operand.tmp 8) (Operand.tmp 35), type := 0, pos := "l14_knowledge.go:105", after := #[{ on := 4, ground := Ground.data }, { on := 1, ground := Ground.data }, { on := 3, ground := Ground.chain }, { on := 0, ground := Ground.phase }, { on := 1, ground := Ground.phase }, { on := 2, ground := Ground.textOnly Departure.lateStores }, { on := 3, ground := Ground.textOnly Departure.lateStoresUnsure }, { on := 4, ground := Ground.phase }, { on := 5, ground := Ground.phase }], guard := none }) rfl (fun K hK => ?_) ?_
            · have xc0 : u4.cell? ⟨u3.heap.size, 0, none⟩ = some (.int .i64 0) := HX_a4.out.cell 0
              have xf0 : u4.frozen? ⟨u3.heap.size, 0, none⟩ = false := HX_a4.out.free 0
              have xc1 : u4.cell? ⟨u3.heap.size, 1, none⟩ = some (.int .i64 0) := HX_a4.out.cell 1
              have xf1 : u4.frozen? ⟨u3.heap.size, 1, none⟩ = false := HX_a4.out.free 1
              go_simp
              obtain ⟨u5, hw5⟩ : ∃ W, Hid (((u4.setCell ⟨u3.heap.size, 0, none⟩ (.int .i64 c)).setCell ⟨u3.heap.size, 1, none⟩ (.int .i64 r)) = W) := ⟨_, Lib.hid rfl⟩
              rw [hw5.out]
              have hk5 : Kept (u3.heap.size) (u3.heap.size + 1) u4 u5 := by rw [← hw5.out]; exact ((Kept.refl _ _ _).setCell (p := ⟨u3.heap.size, 0, none⟩) (Nat.le_refl _) (Nat.lt_succ_self _) _).setCell (p := ⟨u3.heap.size, 1, none⟩) (Nat.le_refl _) (Nat.lt_succ_self _) _
              have zs5 : u4.heap.size ≤ u5.heap.size := hk5.size
              have hlo5 := HBl4.out.size
              have HBl5 : Hid (Below w.heap.size w u5) := Lib.hid (HBl4.out.trans ((hk5.to_below (by have := HX_a4.out.lt; omega)).mono (by omega)))
              have HX_a5 : Hid (Bx u5 u3.heap.size #[.int .i64 c, .int .i64 r] 92) := Lib.hid (by have := ((HX_a4.out).set 0 (.int .i64 c)).set 1 (.int .i64 r); rw [hw5.out] at this; exact this)
              have HX_p5 : Hid (Bx u5 w.heap.size #[.int .i64 x, .int .i64 c, .int .i64 r] 52) := Lib.hid (HX_p4.out.kept hk5 (by have := HX_p4.out.lt; have := HX_q4.out.lt; have := HX_b4.out.lt; have := HX_a4.out.lt; omega))
              have HX_q5 : Hid (Bx u5 (w.heap.size + 1) #[.int .i64 y, .int .i64 d, .int .i64 s] 52) := Lib.hid (HX_q4.out.kept hk5 (by have := HX_p4.out.lt; have := HX_q4.out.lt; have := HX_b4.out.lt; have := HX_a4.out.lt; omega))
              have HX_b5 : Hid (Bx u5 u1.heap.size #[.int .i64 0, .int .i64 0] 92) := Lib.hid (HX_b4.out.kept hk5 (by have := HX_p4.out.lt; have := HX_q4.out.lt; have := HX_b4.out.lt; have := HX_a4.out.lt; omega))
              clear hHeld hw5 hk5 hlo5 xc0 xf0 xc1 xf1 HBl4 HX_p4 HX_q4 HX_b4 HX_a4
              refine hK.out _ _ ⟨HX_p5.out.cell 0, HX_p5.out.cell 1, HX_p5.out.cell 2, HX_q5.out.cell 0, HX_q5.out.cell 1, HX_q5.out.cell 2⟩ (fun hHeld => ?_)
              clear hK K
              try simp only [Act.put]
              refine wpAnyH_ready (rs := [7]) (by kernel_rfl) (by simp) ?_
              refine AllReadyH.cons (o := { dst := none, op := Op.store 92 (Operand.tmp 9) (Operand.tmp 37), type := 0, pos := "l14_knowledge.go:105", after := #[{ on := 5, ground := Ground.data }, { on := 3, ground := Ground.data }, { on := 6, ground := Ground.chain }, { on := 0, ground := Ground.phase }, { on := 1, ground := Ground.phase }, { on := 2, ground := Ground.phase }, { on := 3, ground := Ground.phase }, { on := 4, ground := Ground.phase }, { on := 5, ground := Ground.phase }, { on := 6, ground := Ground.phase }], guard := none }) rfl (fun K hK => ?_) ?_
              · have xc0 : u5.cell? ⟨u1.heap.size, 0, none⟩ = some (.int .i64 0) := HX_b5.out.cell 0
                have xf0 : u5.frozen? ⟨u1.heap.size, 0, none⟩ = false := HX_b5.out.free 0
                have xc1 : u5.cell? ⟨u1.heap.size, 1, none⟩ = some (.int .i64 0) := HX_b5.out.cell 1
                have xf1 : u5.frozen? ⟨u1.heap.size, 1, none⟩ = false := HX_b5.out.free 1
                go_simp
                obtain ⟨u6, hw6⟩ : ∃ W, Hid (((u5.setCell ⟨u1.heap.size, 0, none⟩ (.int .i64 d)).setCell ⟨u1.heap.size, 1, none⟩ (.int .i64 s)) = W) := ⟨_, Lib.hid rfl⟩
                rw [hw6.out]
                have hk6 : Kept (u1.heap.size) (u1.heap.size + 1) u5 u6 := by rw [← hw6.out]; exact ((Kept.refl _ _ _).setCell (p := ⟨u1.heap.size, 0, none⟩) (Nat.le_refl _) (Nat.lt_succ_self _) _).setCell (p := ⟨u1.heap.size, 1, none⟩) (Nat.le_refl _) (Nat.lt_succ_self _) _
                have zs6 : u5.heap.size ≤ u6.heap.size := hk6.size
                have hlo6 := HBl5.out.size
                have HBl6 : Hid (Below w.heap.size w u6) := Lib.hid (HBl5.out.trans ((hk6.to_below (by have := HX_b5.out.lt; omega)).mono (by omega)))
                have HX_b6 : Hid (Bx u6 u1.heap.size #[.int .i64 d, .int .i64 s] 92) := Lib.hid (by have := ((HX_b5.out).set 0 (.int .i64 d)).set 1 (.int .i64 s); rw [hw6.out] at this; exact this)
                have HX_p6 : Hid (Bx u6 w.heap.size #[.int .i64 x, .int .i64 c, .int .i64 r] 52) := Lib.hid (HX_p5.out.kept hk6 (by have := HX_p5.out.lt; have := HX_q5.out.lt; have := HX_b5.out.lt; have := HX_a5.out.lt; omega))
                have HX_q6 : Hid (Bx u6 (w.heap.size + 1) #[.int .i64 y, .int .i64 d, .int .i64 s] 52) := Lib.hid (HX_q5.out.kept hk6 (by have := HX_p5.out.lt; have := HX_q5.out.lt; have := HX_b5.out.lt; have := HX_a5.out.lt; omega))
                have HX_a6 : Hid (Bx u6 u3.heap.size #[.int .i64 c, .int .i64 r] 92) := Lib.hid (HX_a5.out.kept hk6 (by have := HX_p5.out.lt; have := HX_q5.out.lt; have := HX_b5.out.lt; have := HX_a5.out.lt; omega))
                clear hHeld hw6 hk6 hlo6 xc0 xf0 xc1 xf1 HBl5 HX_p5 HX_q5 HX_b5 HX_a5
                refine hK.out _ _ ⟨HX_p6.out.cell 0, HX_p6.out.cell 1, HX_p6.out.cell 2, HX_q6.out.cell 0, HX_q6.out.cell 1, HX_q6.out.cell 2⟩ (fun hHeld => ?_)
                clear hK K
                try simp only [Act.put]
                refine wpAnyH_done (by kernel_rfl) ?_ _
                go_wp2
                go_meet
                case rel => exact ⟨u3.heap.size, u1.heap.size, rfl, rfl, HX_a6, HX_b6, HBl6⟩
              exact AllReadyH.nil
            exact AllReadyH.nil
          exact AllReadyH.nil
        refine AllReadyH.cons (o := { dst := some 8, op := Op.alloc 92, type := 0, pos := "l14_knowledge.go:105", after := #[], guard := none }) rfl (fun K hK => ?_) ?_
        · go_simp
          obtain ⟨u3, hw3⟩ : ∃ W, Hid (u2.alloc (.cells #[.int .i64 0, .int .i64 0] 92) = W) := ⟨_, Lib.hid rfl⟩
          rw [hw3.out]
          have zs3 : u2.heap.size < u3.heap.size := by rw [← hw3.out, World.size_alloc]; omega
          have HBl3 : Hid (Below w.heap.size w u3) := Lib.hid (by rw [← hw3.out]; exact HBl2.out.alloc HBl2.out.size _)
          have HX_p3 : Hid (Bx u3 w.heap.size #[.int .i64 x, .int .i64 c, .int .i64 r] 52) := Lib.hid (by rw [← hw3.out]; exact HX_p2.out.alloc _)
          have HX_q3 : Hid (Bx u3 (w.heap.size + 1) #[.int .i64 y, .int .i64 d, .int .i64 s] 52) := Lib.hid (by rw [← hw3.out]; exact HX_q2.out.alloc _)
          have HX_b3 : Hid (Bx u3 u1.heap.size #[.int .i64 0, .int .i64 0] 92) := Lib.hid (by rw [← hw3.out]; exact HX_b2.out.alloc _)
          have HX_a3 : Hid (Bx u3 u2.heap.size #[.int .i64 0, .int .i64 0] 92) := Lib.hid (by rw [← hw3.out]; exact Bx.new _ _ _)
          have hab3 : Below u2.heap.size u2 u3 := by rw [← hw3.out]; exact (Below.refl _ _).alloc (Nat.le_refl _) _
          clear hHeld hw3 hab3 HBl2 HX_p2 HX_q2 HX_b2
          refine hK.out _ _ ⟨HX_p3.out.cell 0, HX_p3.out.cell 1, HX_p3.out.cell 2, HX_q3.out.cell 0, HX_q3.out.cell 1, HX_q3.out.cell 2⟩ (fun hHeld => ?_)
          clear hK K
          try simp only [Act.put, List.setIfInBounds_toArray, List.set_cons_zero, List.set_cons_succ]
          refine wpAnyH_ready (rs := [3]) (by kernel_rfl) (by simp) ?_
          refine AllReadyH.cons (o := { dst := some 37, op := Op.call { callee := Callee.value (Operand.func 80), args := #[Operand.tmp 36], argTypes := #[52] }, type := 92, pos := "l14_knowledge.go:105", after := #[{ on := 2, ground := Ground.data }, { on := 1, ground := Ground.chain }], guard := none }) rfl (fun K hK => ?_) ?_
          · go_simp
            refine (i_Proof_answer y d s u3).mono ?_
            rintro e u4 ⟨rfl, hb_⟩
            have zs4 : u3.heap.size ≤ u4.heap.size := hb_.size
            have HBl4 : Hid (Below w.heap.size w u4) := Lib.hid (HBl3.out.trans (hb_.mono HBl3.out.size))
            have HX_p4 : Hid (Bx u4 w.heap.size #[.int .i64 x, .int .i64 c, .int .i64 r] 52) := Lib.hid (HX_p3.out.below hb_ HX_p3.out.lt)
            have HX_q4 : Hid (Bx u4 (w.heap.size + 1) #[.int .i64 y, .int .i64 d, .int .i64 s] 52) := Lib.hid (HX_q3.out.below hb_ HX_q3.out.lt)
            have HX_b4 : Hid (Bx u4 u1.heap.size #[.int .i64 0, .int .i64 0] 92) := Lib.hid (HX_b3.out.below hb_ HX_b3.out.lt)
            have HX_a4 : Hid (Bx u4 u2.heap.size #[.int .i64 0, .int .i64 0] 92) := Lib.hid (HX_a3.out.below hb_ HX_a3.out.lt)
            clear hHeld hb_ HBl3 HX_p3 HX_q3 HX_b3 HX_a3
            (try dsimp only)
            (try go_wp2_with fail)
            refine hK.out _ _ ⟨HX_p4.out.cell 0, HX_p4.out.cell 1, HX_p4.out.cell 2, HX_q4.out.cell 0, HX_q4.out.cell 1, HX_q4.out.cell 2⟩ (fun hHeld => ?_)
            clear hK K
            try simp only [Act.put, List.setIfInBounds_toArray, List.set_cons_zero, List.set_cons_succ]
            refine wpAnyH_ready (rs := [6]) (by kernel_rfl) (by simp) ?_
            refine AllReadyH.cons (o := { dst := none, op := Op.store 92 (Operand.tmp 8) (Operand.tmp 35), type := 0, pos := "l14_knowledge.go:105", after := #[{ on := 4, ground := Ground.data }, { on := 1, ground := Ground.data }, { on := 3, ground := Ground.chain }, { on := 0, ground := Ground.phase }, { on := 1, ground := Ground.phase }, { on := 2, ground := Ground.textOnly Departure.lateStores }, { on := 3, ground := Ground.textOnly Departure.lateStoresUnsure }, { on := 4, ground := Ground.phase }, { on := 5, ground := Ground.phase }], guard := none }) rfl (fun K hK => ?_) ?_
            · have xc0 : u4.cell? ⟨u2.heap.size, 0, none⟩ = some (.int .i64 0) := HX_a4.out.cell 0
              have xf0 : u4.frozen? ⟨u2.heap.size, 0, none⟩ = false := HX_a4.out.free 0
              have xc1 : u4.cell? ⟨u2.heap.size, 1, none⟩ = some (.int .i64 0) := HX_a4.out.cell 1
              have xf1 : u4.frozen? ⟨u2.heap.size, 1, none⟩ = false := HX_a4.out.free 1
              go_simp
              obtain ⟨u5, hw5⟩ : ∃ W, Hid (((u4.setCell ⟨u2.heap.size, 0, none⟩ (.int .i64 c)).setCell ⟨u2.heap.size, 1, none⟩ (.int .i64 r)) = W) := ⟨_, Lib.hid rfl⟩
              rw [hw5.out]
              have hk5 : Kept (u2.heap.size) (u2.heap.size + 1) u4 u5 := by rw [← hw5.out]; exact ((Kept.refl _ _ _).setCell (p := ⟨u2.heap.size, 0, none⟩) (Nat.le_refl _) (Nat.lt_succ_self _) _).setCell (p := ⟨u2.heap.size, 1, none⟩) (Nat.le_refl _) (Nat.lt_succ_self _) _
              have zs5 : u4.heap.size ≤ u5.heap.size := hk5.size
              have hlo5 := HBl4.out.size
              have HBl5 : Hid (Below w.heap.size w u5) := Lib.hid (HBl4.out.trans ((hk5.to_below (by have := HX_a4.out.lt; omega)).mono (by omega)))
              have HX_a5 : Hid (Bx u5 u2.heap.size #[.int .i64 c, .int .i64 r] 92) := Lib.hid (by have := ((HX_a4.out).set 0 (.int .i64 c)).set 1 (.int .i64 r); rw [hw5.out] at this; exact this)
              have HX_p5 : Hid (Bx u5 w.heap.size #[.int .i64 x, .int .i64 c, .int .i64 r] 52) := Lib.hid (HX_p4.out.kept hk5 (by have := HX_p4.out.lt; have := HX_q4.out.lt; have := HX_b4.out.lt; have := HX_a4.out.lt; omega))
              have HX_q5 : Hid (Bx u5 (w.heap.size + 1) #[.int .i64 y, .int .i64 d, .int .i64 s] 52) := Lib.hid (HX_q4.out.kept hk5 (by have := HX_p4.out.lt; have := HX_q4.out.lt; have := HX_b4.out.lt; have := HX_a4.out.lt; omega))
              have HX_b5 : Hid (Bx u5 u1.heap.size #[.int .i64 0, .int .i64 0] 92) := Lib.hid (HX_b4.out.kept hk5 (by have := HX_p4.out.lt; have := HX_q4.out.lt; have := HX_b4.out.lt; have := HX_a4.out.lt; omega))
              clear hHeld hw5 hk5 hlo5 xc0 xf0 xc1 xf1 HBl4 HX_p4 HX_q4 HX_b4 HX_a4
              refine hK.out _ _ ⟨HX_p5.out.cell 0, HX_p5.out.cell 1, HX_p5.out.cell 2, HX_q5.out.cell 0, HX_q5.out.cell 1, HX_q5.out.cell 2⟩ (fun hHeld => ?_)
              clear hK K
              try simp only [Act.put]
              refine wpAnyH_ready (rs := [7]) (by kernel_rfl) (by simp) ?_
              refine AllReadyH.cons (o := { dst := none, op := Op.store 92 (Operand.tmp 9) (Operand.tmp 37), type := 0, pos := "l14_knowledge.go:105", after := #[{ on := 5, ground := Ground.data }, { on := 3, ground := Ground.data }, { on := 6, ground := Ground.chain }, { on := 0, ground := Ground.phase }, { on := 1, ground := Ground.phase }, { on := 2, ground := Ground.phase }, { on := 3, ground := Ground.phase }, { on := 4, ground := Ground.phase }, { on := 5, ground := Ground.phase }, { on := 6, ground := Ground.phase }], guard := none }) rfl (fun K hK => ?_) ?_
              · have xc0 : u5.cell? ⟨u1.heap.size, 0, none⟩ = some (.int .i64 0) := HX_b5.out.cell 0
                have xf0 : u5.frozen? ⟨u1.heap.size, 0, none⟩ = false := HX_b5.out.free 0
                have xc1 : u5.cell? ⟨u1.heap.size, 1, none⟩ = some (.int .i64 0) := HX_b5.out.cell 1
                have xf1 : u5.frozen? ⟨u1.heap.size, 1, none⟩ = false := HX_b5.out.free 1
                go_simp
                obtain ⟨u6, hw6⟩ : ∃ W, Hid (((u5.setCell ⟨u1.heap.size, 0, none⟩ (.int .i64 d)).setCell ⟨u1.heap.size, 1, none⟩ (.int .i64 s)) = W) := ⟨_, Lib.hid rfl⟩
                rw [hw6.out]
                have hk6 : Kept (u1.heap.size) (u1.heap.size + 1) u5 u6 := by rw [← hw6.out]; exact ((Kept.refl _ _ _).setCell (p := ⟨u1.heap.size, 0, none⟩) (Nat.le_refl _) (Nat.lt_succ_self _) _).setCell (p := ⟨u1.heap.size, 1, none⟩) (Nat.le_refl _) (Nat.lt_succ_self _) _
                have zs6 : u5.heap.size ≤ u6.heap.size := hk6.size
                have hlo6 := HBl5.out.size
                have HBl6 : Hid (Below w.heap.size w u6) := Lib.hid (HBl5.out.trans ((hk6.to_below (by have := HX_b5.out.lt; omega)).mono (by omega)))
                have HX_b6 : Hid (Bx u6 u1.heap.size #[.int .i64 d, .int .i64 s] 92) := Lib.hid (by have := ((HX_b5.out).set 0 (.int .i64 d)).set 1 (.int .i64 s); rw [hw6.out] at this; exact this)
                have HX_p6 : Hid (Bx u6 w.heap.size #[.int .i64 x, .int .i64 c, .int .i64 r] 52) := Lib.hid (HX_p5.out.kept hk6 (by have := HX_p5.out.lt; have := HX_q5.out.lt; have := HX_b5.out.lt; have := HX_a5.out.lt; omega))
                have HX_q6 : Hid (Bx u6 (w.heap.size + 1) #[.int .i64 y, .int .i64 d, .int .i64 s] 52) := Lib.hid (HX_q5.out.kept hk6 (by have := HX_p5.out.lt; have := HX_q5.out.lt; have := HX_b5.out.lt; have := HX_a5.out.lt; omega))
                have HX_a6 : Hid (Bx u6 u2.heap.size #[.int .i64 c, .int .i64 r] 92) := Lib.hid (HX_a5.out.kept hk6 (by have := HX_p5.out.lt; have := HX_q5.out.lt; have := HX_b5.out.lt; have := HX_a5.out.lt; omega))
                clear hHeld hw6 hk6 hlo6 xc0 xf0 xc1 xf1 HBl5 HX_p5 HX_q5 HX_b5 HX_a5
                refine hK.out _ _ ⟨HX_p6.out.cell 0, HX_p6.out.cell 1, HX_p6.out.cell 2, HX_q6.out.cell 0, HX_q6.out.cell 1, HX_q6.out.cell 2⟩ (fun hHeld => ?_)
                clear hK K
                try simp only [Act.put]
                refine wpAnyH_done (by kernel_rfl) ?_ _
                go_wp2
                go_meet
                case rel => exact ⟨u2.heap.size, u1.heap.size, rfl, rfl, HX_a6, HX_b6, HBl6⟩
              exact AllReadyH.nil
            exact AllReadyH.nil
          exact AllReadyH.nil
        exact AllReadyH.nil
      exact AllReadyH.nil
    refine AllReadyH.cons (o := { dst := some 8, op := Op.alloc 92, type := 0, pos := "l14_knowledge.go:105", after := #[], guard := none }) rfl (fun K hK => ?_) ?_
    · go_simp
      obtain ⟨u1, hw1⟩ : ∃ W, Hid (u0.alloc (.cells #[.int .i64 0, .int .i64 0] 92) = W) := ⟨_, Lib.hid rfl⟩
      rw [hw1.out]
      have zs1 : u0.heap.size < u1.heap.size := by rw [← hw1.out, World.size_alloc]; omega
      have HBl1 : Hid (Below w.heap.size w u1) := Lib.hid (by rw [← hw1.out]; exact HBl0.out.alloc HBl0.out.size _)
      have HX_p1 : Hid (Bx u1 w.heap.size #[.int .i64 x, .int .i64 c, .int .i64 r] 52) := Lib.hid (by rw [← hw1.out]; exact HX_p0.out.alloc _)
      have HX_q1 : Hid (Bx u1 (w.heap.size + 1) #[.int .i64 y, .int .i64 d, .int .i64 s] 52) := Lib.hid (by rw [← hw1.out]; exact HX_q0.out.alloc _)
      have HX_a1 : Hid (Bx u1 u0.heap.size #[.int .i64 0, .int .i64 0] 92) := Lib.hid (by rw [← hw1.out]; exact Bx.new _ _ _)
      have hab1 : Below u0.heap.size u0 u1 := by rw [← hw1.out]; exact (Below.refl _ _).alloc (Nat.le_refl _) _
      clear hHeld hw1 hab1 HBl0 HX_p0 HX_q0
      refine hK.out _ _ ⟨HX_p1.out.cell 0, HX_p1.out.cell 1, HX_p1.out.cell 2, HX_q1.out.cell 0, HX_q1.out.cell 1, HX_q1.out.cell 2⟩ (fun hHeld => ?_)
      clear hK K
      try simp only [Act.put, List.setIfInBounds_toArray, List.set_cons_zero, List.set_cons_succ]
      refine wpAnyH_ready (rs := [1, 5]) (by kernel_rfl) (by simp) ?_
      refine AllReadyH.cons (o := { dst := some 35, op := Op.call { callee := Callee.value (Operand.func 80), args := #[Operand.tmp 34], argTypes := #[52] }, type := 92, pos := "l14_knowledge.go:105", after := #[{ on := 0, ground := Ground.data }], guard := none }) rfl (fun K hK => ?_) ?_
      · go_simp
        refine (i_Proof_answer x c r u1).mono ?_
        rintro e u2 ⟨rfl, hb_⟩
        have zs2 : u1.heap.size ≤ u2.heap.size := hb_.size
        have HBl2 : Hid (Below w.heap.size w u2) := Lib.hid (HBl1.out.trans (hb_.mono HBl1.out.size))
        have HX_p2 : Hid (Bx u2 w.heap.size #[.int .i64 x, .int .i64 c, .int .i64 r] 52) := Lib.hid (HX_p1.out.below hb_ HX_p1.out.lt)
        have HX_q2 : Hid (Bx u2 (w.heap.size + 1) #[.int .i64 y, .int .i64 d, .int .i64 s] 52) := Lib.hid (HX_q1.out.below hb_ HX_q1.out.lt)
        have HX_a2 : Hid (Bx u2 u0.heap.size #[.int .i64 0, .int .i64 0] 92) := Lib.hid (HX_a1.out.below hb_ HX_a1.out.lt)
        clear hHeld hb_ HBl1 HX_p1 HX_q1 HX_a1
        (try dsimp only)
        (try go_wp2_with fail)
        refine hK.out _ _ ⟨HX_p2.out.cell 0, HX_p2.out.cell 1, HX_p2.out.cell 2, HX_q2.out.cell 0, HX_q2.out.cell 1, HX_q2.out.cell 2⟩ (fun hHeld => ?_)
        clear hK K
        try simp only [Act.put, List.setIfInBounds_toArray, List.set_cons_zero, List.set_cons_succ]
        refine wpAnyH_ready (rs := [3, 5]) (by kernel_rfl) (by simp) ?_
        refine AllReadyH.cons (o := { dst := some 37, op := Op.call { callee := Callee.value (Operand.func 80), args := #[Operand.tmp 36], argTypes := #[52] }, type := 92, pos := "l14_knowledge.go:105", after := #[{ on := 2, ground := Ground.data }, { on := 1, ground := Ground.chain }], guard := none }) rfl (fun K hK => ?_) ?_
        · go_simp
          refine (i_Proof_answer y d s u2).mono ?_
          rintro e u3 ⟨rfl, hb_⟩
          have zs3 : u2.heap.size ≤ u3.heap.size := hb_.size
          have HBl3 : Hid (Below w.heap.size w u3) := Lib.hid (HBl2.out.trans (hb_.mono HBl2.out.size))
          have HX_p3 : Hid (Bx u3 w.heap.size #[.int .i64 x, .int .i64 c, .int .i64 r] 52) := Lib.hid (HX_p2.out.below hb_ HX_p2.out.lt)
          have HX_q3 : Hid (Bx u3 (w.heap.size + 1) #[.int .i64 y, .int .i64 d, .int .i64 s] 52) := Lib.hid (HX_q2.out.below hb_ HX_q2.out.lt)
          have HX_a3 : Hid (Bx u3 u0.heap.size #[.int .i64 0, .int .i64 0] 92) := Lib.hid (HX_a2.out.below hb_ HX_a2.out.lt)
          clear hHeld hb_ HBl2 HX_p2 HX_q2 HX_a2
          (try dsimp only)
          (try go_wp2_with fail)
          refine hK.out _ _ ⟨HX_p3.out.cell 0, HX_p3.out.cell 1, HX_p3.out.cell 2, HX_q3.out.cell 0, HX_q3.out.cell 1, HX_q3.out.cell 2⟩ (fun hHeld => ?_)
          clear hK K
          try simp only [Act.put, List.setIfInBounds_toArray, List.set_cons_zero, List.set_cons_succ]
          refine wpAnyH_ready (rs := [5]) (by kernel_rfl) (by simp) ?_
          refine AllReadyH.cons (o := { dst := some 9, op := Op.alloc 92, type := 0, pos := "l14_knowledge.go:105", after := #[], guard := none }) rfl (fun K hK => ?_) ?_
          · go_simp
            obtain ⟨u4, hw4⟩ : ∃ W, Hid (u3.alloc (.cells #[.int .i64 0, .int .i64 0] 92) = W) := ⟨_, Lib.hid rfl⟩
            rw [hw4.out]
            have zs4 : u3.heap.size < u4.heap.size := by rw [← hw4.out, World.size_alloc]; omega
            have HBl4 : Hid (Below w.heap.size w u4) := Lib.hid (by rw [← hw4.out]; exact HBl3.out.alloc HBl3.out.size _)
            have HX_p4 : Hid (Bx u4 w.heap.size #[.int .i64 x, .int .i64 c, .int .i64 r] 52) := Lib.hid (by rw [← hw4.out]; exact HX_p3.out.alloc _)
            have HX_q4 : Hid (Bx u4 (w.heap.size + 1) #[.int .i64 y, .int .i64 d, .int .i64 s] 52) := Lib.hid (by rw [← hw4.out]; exact HX_q3.out.alloc _)
            have HX_a4 : Hid (Bx u4 u0.heap.size #[.int .i64 0, .int .i64 0] 92) := Lib.hid (by rw [← hw4.out]; exact HX_a3.out.alloc _)
            have HX_b4 : Hid (Bx u4 u3.heap.size #[.int .i64 0, .int .i64 0] 92) := Lib.hid (by rw [← hw4.out]; exact Bx.new _ _ _)
            have hab4 : Below u3.heap.size u3 u4 := by rw [← hw4.out]; exact (Below.refl _ _).alloc (Nat.le_refl _) _
            clear hHeld hw4 hab4 HBl3 HX_p3 HX_q3 HX_a3
            refine hK.out _ _ ⟨HX_p4.out.cell 0, HX_p4.out.cell 1, HX_p4.out.cell 2, HX_q4.out.cell 0, HX_q4.out.cell 1, HX_q4.out.cell 2⟩ (fun hHeld => ?_)
            clear hK K
            try simp only [Act.put, List.setIfInBounds_toArray, List.set_cons_zero, List.set_cons_succ]
            refine wpAnyH_ready (rs := [6]) (by kernel_rfl) (by simp) ?_
            refine AllReadyH.cons (o := { dst := none, op := Op.store 92 (Operand.tmp 8) (Operand.tmp 35), type := 0, pos := "l14_knowledge.go:105", after := #[{ on := 4, ground := Ground.data }, { on := 1, ground := Ground.data }, { on := 3, ground := Ground.chain }, { on := 0, ground := Ground.phase }, { on := 1, ground := Ground.phase }, { on := 2, ground := Ground.textOnly Departure.lateStores }, { on := 3, ground := Ground.textOnly Departure.lateStoresUnsure }, { on := 4, ground := Ground.phase }, { on := 5, ground := Ground.phase }], guard := none }) rfl (fun K hK => ?_) ?_
            · have xc0 : u4.cell? ⟨u0.heap.size, 0, none⟩ = some (.int .i64 0) := HX_a4.out.cell 0
              have xf0 : u4.frozen? ⟨u0.heap.size, 0, none⟩ = false := HX_a4.out.free 0
              have xc1 : u4.cell? ⟨u0.heap.size, 1, none⟩ = some (.int .i64 0) := HX_a4.out.cell 1
              have xf1 : u4.frozen? ⟨u0.heap.size, 1, none⟩ = false := HX_a4.out.free 1
              go_simp
              obtain ⟨u5, hw5⟩ : ∃ W, Hid (((u4.setCell ⟨u0.heap.size, 0, none⟩ (.int .i64 c)).setCell ⟨u0.heap.size, 1, none⟩ (.int .i64 r)) = W) := ⟨_, Lib.hid rfl⟩
              rw [hw5.out]
              have hk5 : Kept (u0.heap.size) (u0.heap.size + 1) u4 u5 := by rw [← hw5.out]; exact ((Kept.refl _ _ _).setCell (p := ⟨u0.heap.size, 0, none⟩) (Nat.le_refl _) (Nat.lt_succ_self _) _).setCell (p := ⟨u0.heap.size, 1, none⟩) (Nat.le_refl _) (Nat.lt_succ_self _) _
              have zs5 : u4.heap.size ≤ u5.heap.size := hk5.size
              have hlo5 := HBl4.out.size
              have HBl5 : Hid (Below w.heap.size w u5) := Lib.hid (HBl4.out.trans ((hk5.to_below (by have := HX_a4.out.lt; omega)).mono (by omega)))
              have HX_a5 : Hid (Bx u5 u0.heap.size #[.int .i64 c, .int .i64 r] 92) := Lib.hid (by have := ((HX_a4.out).set 0 (.int .i64 c)).set 1 (.int .i64 r); rw [hw5.out] at this; exact this)
              have HX_p5 : Hid (Bx u5 w.heap.size #[.int .i64 x, .int .i64 c, .int .i64 r] 52) := Lib.hid (HX_p4.out.kept hk5 (by have := HX_p4.out.lt; have := HX_q4.out.lt; have := HX_a4.out.lt; have := HX_b4.out.lt; omega))
              have HX_q5 : Hid (Bx u5 (w.heap.size + 1) #[.int .i64 y, .int .i64 d, .int .i64 s] 52) := Lib.hid (HX_q4.out.kept hk5 (by have := HX_p4.out.lt; have := HX_q4.out.lt; have := HX_a4.out.lt; have := HX_b4.out.lt; omega))
              have HX_b5 : Hid (Bx u5 u3.heap.size #[.int .i64 0, .int .i64 0] 92) := Lib.hid (HX_b4.out.kept hk5 (by have := HX_p4.out.lt; have := HX_q4.out.lt; have := HX_a4.out.lt; have := HX_b4.out.lt; omega))
              clear hHeld hw5 hk5 hlo5 xc0 xf0 xc1 xf1 HBl4 HX_p4 HX_q4 HX_a4 HX_b4
              refine hK.out _ _ ⟨HX_p5.out.cell 0, HX_p5.out.cell 1, HX_p5.out.cell 2, HX_q5.out.cell 0, HX_q5.out.cell 1, HX_q5.out.cell 2⟩ (fun hHeld => ?_)
              clear hK K
              try simp only [Act.put]
              refine wpAnyH_ready (rs := [7]) (by kernel_rfl) (by simp) ?_
              refine AllReadyH.cons (o := { dst := none, op := Op.store 92 (Operand.tmp 9) (Operand.tmp 37), type := 0, pos := "l14_knowledge.go:105", after := #[{ on := 5, ground := Ground.data }, { on := 3, ground := Ground.data }, { on := 6, ground := Ground.chain }, { on := 0, ground := Ground.phase }, { on := 1, ground := Ground.phase }, { on := 2, ground := Ground.phase }, { on := 3, ground := Ground.phase }, { on := 4, ground := Ground.phase }, { on := 5, ground := Ground.phase }, { on := 6, ground := Ground.phase }], guard := none }) rfl (fun K hK => ?_) ?_
              · have xc0 : u5.cell? ⟨u3.heap.size, 0, none⟩ = some (.int .i64 0) := HX_b5.out.cell 0
                have xf0 : u5.frozen? ⟨u3.heap.size, 0, none⟩ = false := HX_b5.out.free 0
                have xc1 : u5.cell? ⟨u3.heap.size, 1, none⟩ = some (.int .i64 0) := HX_b5.out.cell 1
                have xf1 : u5.frozen? ⟨u3.heap.size, 1, none⟩ = false := HX_b5.out.free 1
                go_simp
                obtain ⟨u6, hw6⟩ : ∃ W, Hid (((u5.setCell ⟨u3.heap.size, 0, none⟩ (.int .i64 d)).setCell ⟨u3.heap.size, 1, none⟩ (.int .i64 s)) = W) := ⟨_, Lib.hid rfl⟩
                rw [hw6.out]
                have hk6 : Kept (u3.heap.size) (u3.heap.size + 1) u5 u6 := by rw [← hw6.out]; exact ((Kept.refl _ _ _).setCell (p := ⟨u3.heap.size, 0, none⟩) (Nat.le_refl _) (Nat.lt_succ_self _) _).setCell (p := ⟨u3.heap.size, 1, none⟩) (Nat.le_refl _) (Nat.lt_succ_self _) _
                have zs6 : u5.heap.size ≤ u6.heap.size := hk6.size
                have hlo6 := HBl5.out.size
                have HBl6 : Hid (Below w.heap.size w u6) := Lib.hid (HBl5.out.trans ((hk6.to_below (by have := HX_b5.out.lt; omega)).mono (by omega)))
                have HX_b6 : Hid (Bx u6 u3.heap.size #[.int .i64 d, .int .i64 s] 92) := Lib.hid (by have := ((HX_b5.out).set 0 (.int .i64 d)).set 1 (.int .i64 s); rw [hw6.out] at this; exact this)
                have HX_p6 : Hid (Bx u6 w.heap.size #[.int .i64 x, .int .i64 c, .int .i64 r] 52) := Lib.hid (HX_p5.out.kept hk6 (by have := HX_p5.out.lt; have := HX_q5.out.lt; have := HX_a5.out.lt; have := HX_b5.out.lt; omega))
                have HX_q6 : Hid (Bx u6 (w.heap.size + 1) #[.int .i64 y, .int .i64 d, .int .i64 s] 52) := Lib.hid (HX_q5.out.kept hk6 (by have := HX_p5.out.lt; have := HX_q5.out.lt; have := HX_a5.out.lt; have := HX_b5.out.lt; omega))
                have HX_a6 : Hid (Bx u6 u0.heap.size #[.int .i64 c, .int .i64 r] 92) := Lib.hid (HX_a5.out.kept hk6 (by have := HX_p5.out.lt; have := HX_q5.out.lt; have := HX_a5.out.lt; have := HX_b5.out.lt; omega))
                clear hHeld hw6 hk6 hlo6 xc0 xf0 xc1 xf1 HBl5 HX_p5 HX_q5 HX_a5 HX_b5
                refine hK.out _ _ ⟨HX_p6.out.cell 0, HX_p6.out.cell 1, HX_p6.out.cell 2, HX_q6.out.cell 0, HX_q6.out.cell 1, HX_q6.out.cell 2⟩ (fun hHeld => ?_)
                clear hK K
                try simp only [Act.put]
                refine wpAnyH_done (by kernel_rfl) ?_ _
                go_wp2
                go_meet
                case rel => exact ⟨u0.heap.size, u3.heap.size, rfl, rfl, HX_a6, HX_b6, HBl6⟩
              exact AllReadyH.nil
            exact AllReadyH.nil
          exact AllReadyH.nil
        refine AllReadyH.cons (o := { dst := some 9, op := Op.alloc 92, type := 0, pos := "l14_knowledge.go:105", after := #[], guard := none }) rfl (fun K hK => ?_) ?_
        · go_simp
          obtain ⟨u3, hw3⟩ : ∃ W, Hid (u2.alloc (.cells #[.int .i64 0, .int .i64 0] 92) = W) := ⟨_, Lib.hid rfl⟩
          rw [hw3.out]
          have zs3 : u2.heap.size < u3.heap.size := by rw [← hw3.out, World.size_alloc]; omega
          have HBl3 : Hid (Below w.heap.size w u3) := Lib.hid (by rw [← hw3.out]; exact HBl2.out.alloc HBl2.out.size _)
          have HX_p3 : Hid (Bx u3 w.heap.size #[.int .i64 x, .int .i64 c, .int .i64 r] 52) := Lib.hid (by rw [← hw3.out]; exact HX_p2.out.alloc _)
          have HX_q3 : Hid (Bx u3 (w.heap.size + 1) #[.int .i64 y, .int .i64 d, .int .i64 s] 52) := Lib.hid (by rw [← hw3.out]; exact HX_q2.out.alloc _)
          have HX_a3 : Hid (Bx u3 u0.heap.size #[.int .i64 0, .int .i64 0] 92) := Lib.hid (by rw [← hw3.out]; exact HX_a2.out.alloc _)
          have HX_b3 : Hid (Bx u3 u2.heap.size #[.int .i64 0, .int .i64 0] 92) := Lib.hid (by rw [← hw3.out]; exact Bx.new _ _ _)
          have hab3 : Below u2.heap.size u2 u3 := by rw [← hw3.out]; exact (Below.refl _ _).alloc (Nat.le_refl _) _
          clear hHeld hw3 hab3 HBl2 HX_p2 HX_q2 HX_a2
          refine hK.out _ _ ⟨HX_p3.out.cell 0, HX_p3.out.cell 1, HX_p3.out.cell 2, HX_q3.out.cell 0, HX_q3.out.cell 1, HX_q3.out.cell 2⟩ (fun hHeld => ?_)
          clear hK K
          try simp only [Act.put, List.setIfInBounds_toArray, List.set_cons_zero, List.set_cons_succ]
          refine wpAnyH_ready (rs := [3]) (by kernel_rfl) (by simp) ?_
          refine AllReadyH.cons (o := { dst := some 37, op := Op.call { callee := Callee.value (Operand.func 80), args := #[Operand.tmp 36], argTypes := #[52] }, type := 92, pos := "l14_knowledge.go:105", after := #[{ on := 2, ground := Ground.data }, { on := 1, ground := Ground.chain }], guard := none }) rfl (fun K hK => ?_) ?_
          · go_simp
            refine (i_Proof_answer y d s u3).mono ?_
            rintro e u4 ⟨rfl, hb_⟩
            have zs4 : u3.heap.size ≤ u4.heap.size := hb_.size
            have HBl4 : Hid (Below w.heap.size w u4) := Lib.hid (HBl3.out.trans (hb_.mono HBl3.out.size))
            have HX_p4 : Hid (Bx u4 w.heap.size #[.int .i64 x, .int .i64 c, .int .i64 r] 52) := Lib.hid (HX_p3.out.below hb_ HX_p3.out.lt)
            have HX_q4 : Hid (Bx u4 (w.heap.size + 1) #[.int .i64 y, .int .i64 d, .int .i64 s] 52) := Lib.hid (HX_q3.out.below hb_ HX_q3.out.lt)
            have HX_a4 : Hid (Bx u4 u0.heap.size #[.int .i64 0, .int .i64 0] 92) := Lib.hid (HX_a3.out.below hb_ HX_a3.out.lt)
            have HX_b4 : Hid (Bx u4 u2.heap.size #[.int .i64 0, .int .i64 0] 92) := Lib.hid (HX_b3.out.below hb_ HX_b3.out.lt)
            clear hHeld hb_ HBl3 HX_p3 HX_q3 HX_a3 HX_b3
            (try dsimp only)
            (try go_wp2_with fail)
            refine hK.out _ _ ⟨HX_p4.out.cell 0, HX_p4.out.cell 1, HX_p4.out.cell 2, HX_q4.out.cell 0, HX_q4.out.cell 1, HX_q4.out.cell 2⟩ (fun hHeld => ?_)
            clear hK K
            try simp only [Act.put, List.setIfInBounds_toArray, List.set_cons_zero, List.set_cons_succ]
            refine wpAnyH_ready (rs := [6]) (by kernel_rfl) (by simp) ?_
            refine AllReadyH.cons (o := { dst := none, op := Op.store 92 (Operand.tmp 8) (Operand.tmp 35), type := 0, pos := "l14_knowledge.go:105", after := #[{ on := 4, ground := Ground.data }, { on := 1, ground := Ground.data }, { on := 3, ground := Ground.chain }, { on := 0, ground := Ground.phase }, { on := 1, ground := Ground.phase }, { on := 2, ground := Ground.textOnly Departure.lateStores }, { on := 3, ground := Ground.textOnly Departure.lateStoresUnsure }, { on := 4, ground := Ground.phase }, { on := 5, ground := Ground.phase }], guard := none }) rfl (fun K hK => ?_) ?_
            · have xc0 : u4.cell? ⟨u0.heap.size, 0, none⟩ = some (.int .i64 0) := HX_a4.out.cell 0
              have xf0 : u4.frozen? ⟨u0.heap.size, 0, none⟩ = false := HX_a4.out.free 0
              have xc1 : u4.cell? ⟨u0.heap.size, 1, none⟩ = some (.int .i64 0) := HX_a4.out.cell 1
              have xf1 : u4.frozen? ⟨u0.heap.size, 1, none⟩ = false := HX_a4.out.free 1
              go_simp
              obtain ⟨u5, hw5⟩ : ∃ W, Hid (((u4.setCell ⟨u0.heap.size, 0, none⟩ (.int .i64 c)).setCell ⟨u0.heap.size, 1, none⟩ (.int .i64 r)) = W) := ⟨_, Lib.hid rfl⟩
              rw [hw5.out]
              have hk5 : Kept (u0.heap.size) (u0.heap.size + 1) u4 u5 := by rw [← hw5.out]; exact ((Kept.refl _ _ _).setCell (p := ⟨u0.heap.size, 0, none⟩) (Nat.le_refl _) (Nat.lt_succ_self _) _).setCell (p := ⟨u0.heap.size, 1, none⟩) (Nat.le_refl _) (Nat.lt_succ_self _) _
              have zs5 : u4.heap.size ≤ u5.heap.size := hk5.size
              have hlo5 := HBl4.out.size
              have HBl5 : Hid (Below w.heap.size w u5) := Lib.hid (HBl4.out.trans ((hk5.to_below (by have := HX_a4.out.lt; omega)).mono (by omega)))
              have HX_a5 : Hid (Bx u5 u0.heap.size #[.int .i64 c, .int .i64 r] 92) := Lib.hid (by have := ((HX_a4.out).set 0 (.int .i64 c)).set 1 (.int .i64 r); rw [hw5.out] at this; exact this)
              have HX_p5 : Hid (Bx u5 w.heap.size #[.int .i64 x, .int .i64 c, .int .i64 r] 52) := Lib.hid (HX_p4.out.kept hk5 (by have := HX_p4.out.lt; have := HX_q4.out.lt; have := HX_a4.out.lt; have := HX_b4.out.lt; omega))
              have HX_q5 : Hid (Bx u5 (w.heap.size + 1) #[.int .i64 y, .int .i64 d, .int .i64 s] 52) := Lib.hid (HX_q4.out.kept hk5 (by have := HX_p4.out.lt; have := HX_q4.out.lt; have := HX_a4.out.lt; have := HX_b4.out.lt; omega))
              have HX_b5 : Hid (Bx u5 u2.heap.size #[.int .i64 0, .int .i64 0] 92) := Lib.hid (HX_b4.out.kept hk5 (by have := HX_p4.out.lt; have := HX_q4.out.lt; have := HX_a4.out.lt; have := HX_b4.out.lt; omega))
              clear hHeld hw5 hk5 hlo5 xc0 xf0 xc1 xf1 HBl4 HX_p4 HX_q4 HX_a4 HX_b4
              refine hK.out _ _ ⟨HX_p5.out.cell 0, HX_p5.out.cell 1, HX_p5.out.cell 2, HX_q5.out.cell 0, HX_q5.out.cell 1, HX_q5.out.cell 2⟩ (fun hHeld => ?_)
              clear hK K
              try simp only [Act.put]
              refine wpAnyH_ready (rs := [7]) (by kernel_rfl) (by simp) ?_
              refine AllReadyH.cons (o := { dst := none, op := Op.store 92 (Operand.tmp 9) (Operand.tmp 37), type := 0, pos := "l14_knowledge.go:105", after := #[{ on := 5, ground := Ground.data }, { on := 3, ground := Ground.data }, { on := 6, ground := Ground.chain }, { on := 0, ground := Ground.phase }, { on := 1, ground := Ground.phase }, { on := 2, ground := Ground.phase }, { on := 3, ground := Ground.phase }, { on := 4, ground := Ground.phase }, { on := 5, ground := Ground.phase }, { on := 6, ground := Ground.phase }], guard := none }) rfl (fun K hK => ?_) ?_
              · have xc0 : u5.cell? ⟨u2.heap.size, 0, none⟩ = some (.int .i64 0) := HX_b5.out.cell 0
                have xf0 : u5.frozen? ⟨u2.heap.size, 0, none⟩ = false := HX_b5.out.free 0
                have xc1 : u5.cell? ⟨u2.heap.size, 1, none⟩ = some (.int .i64 0) := HX_b5.out.cell 1
                have xf1 : u5.frozen? ⟨u2.heap.size, 1, none⟩ = false := HX_b5.out.free 1
                go_simp
                obtain ⟨u6, hw6⟩ : ∃ W, Hid (((u5.setCell ⟨u2.heap.size, 0, none⟩ (.int .i64 d)).setCell ⟨u2.heap.size, 1, none⟩ (.int .i64 s)) = W) := ⟨_, Lib.hid rfl⟩
                rw [hw6.out]
                have hk6 : Kept (u2.heap.size) (u2.heap.size + 1) u5 u6 := by rw [← hw6.out]; exact ((Kept.refl _ _ _).setCell (p := ⟨u2.heap.size, 0, none⟩) (Nat.le_refl _) (Nat.lt_succ_self _) _).setCell (p := ⟨u2.heap.size, 1, none⟩) (Nat.le_refl _) (Nat.lt_succ_self _) _
                have zs6 : u5.heap.size ≤ u6.heap.size := hk6.size
                have hlo6 := HBl5.out.size
                have HBl6 : Hid (Below w.heap.size w u6) := Lib.hid (HBl5.out.trans ((hk6.to_below (by have := HX_b5.out.lt; omega)).mono (by omega)))
                have HX_b6 : Hid (Bx u6 u2.heap.size #[.int .i64 d, .int .i64 s] 92) := Lib.hid (by have := ((HX_b5.out).set 0 (.int .i64 d)).set 1 (.int .i64 s); rw [hw6.out] at this; exact this)
                have HX_p6 : Hid (Bx u6 w.heap.size #[.int .i64 x, .int .i64 c, .int .i64 r] 52) := Lib.hid (HX_p5.out.kept hk6 (by have := HX_p5.out.lt; have := HX_q5.out.lt; have := HX_a5.out.lt; have := HX_b5.out.lt; omega))
                have HX_q6 : Hid (Bx u6 (w.heap.size + 1) #[.int .i64 y, .int .i64 d, .int .i64 s] 52) := Lib.hid (HX_q5.out.kept hk6 (by have := HX_p5.out.lt; have := HX_q5.out.lt; have := HX_a5.out.lt; have := HX_b5.out.lt; omega))
                have HX_a6 : Hid (Bx u6 u0.heap.size #[.int .i64 c, .int .i64 r] 92) := Lib.hid (HX_a5.out.kept hk6 (by have := HX_p5.out.lt; have := HX_q5.out.lt; have := HX_a5.out.lt; have := HX_b5.out.lt; omega))
                clear hHeld hw6 hk6 hlo6 xc0 xf0 xc1 xf1 HBl5 HX_p5 HX_q5 HX_a5 HX_b5
                refine hK.out _ _ ⟨HX_p6.out.cell 0, HX_p6.out.cell 1, HX_p6.out.cell 2, HX_q6.out.cell 0, HX_q6.out.cell 1, HX_q6.out.cell 2⟩ (fun hHeld => ?_)
                clear hK K
                try simp only [Act.put]
                refine wpAnyH_done (by kernel_rfl) ?_ _
                go_wp2
                go_meet
                case rel => exact ⟨u0.heap.size, u2.heap.size, rfl, rfl, HX_a6, HX_b6, HBl6⟩
              exact AllReadyH.nil
            exact AllReadyH.nil
          exact AllReadyH.nil
        exact AllReadyH.nil
      refine AllReadyH.cons (o := { dst := some 9, op := Op.alloc 92, type := 0, pos := "l14_knowledge.go:105", after := #[], guard := none }) rfl (fun K hK => ?_) ?_
      · go_simp
        obtain ⟨u2, hw2⟩ : ∃ W, Hid (u1.alloc (.cells #[.int .i64 0, .int .i64 0] 92) = W) := ⟨_, Lib.hid rfl⟩
        rw [hw2.out]
        have zs2 : u1.heap.size < u2.heap.size := by rw [← hw2.out, World.size_alloc]; omega
        have HBl2 : Hid (Below w.heap.size w u2) := Lib.hid (by rw [← hw2.out]; exact HBl1.out.alloc HBl1.out.size _)
        have HX_p2 : Hid (Bx u2 w.heap.size #[.int .i64 x, .int .i64 c, .int .i64 r] 52) := Lib.hid (by rw [← hw2.out]; exact HX_p1.out.alloc _)
        have HX_q2 : Hid (Bx u2 (w.heap.size + 1) #[.int .i64 y, .int .i64 d, .int .i64 s] 52) := Lib.hid (by rw [← hw2.out]; exact HX_q1.out.alloc _)
        have HX_a2 : Hid (Bx u2 u0.heap.size #[.int .i64 0, .int .i64 0] 92) := Lib.hid (by rw [← hw2.out]; exact HX_a1.out.alloc _)
        have HX_b2 : Hid (Bx u2 u1.heap.size #[.int .i64 0, .int .i64 0] 92) := Lib.hid (by rw [← hw2.out]; exact Bx.new _ _ _)
        have hab2 : Below u1.heap.size u1 u2 := by rw [← hw2.out]; exact (Below.refl _ _).alloc (Nat.le_refl _) _
        clear hHeld hw2 hab2 HBl1 HX_p1 HX_q1 HX_a1
        refine hK.out _ _ ⟨HX_p2.out.cell 0, HX_p2.out.cell 1, HX_p2.out.cell 2, HX_q2.out.cell 0, HX_q2.out.cell 1, HX_q2.out.cell 2⟩ (fun hHeld => ?_)
        clear hK K
        try simp only [Act.put, List.setIfInBounds_toArray, List.set_cons_zero, List.set_cons_succ]
        refine wpAnyH_ready (rs := [1]) (by kernel_rfl) (by simp) ?_
        refine AllReadyH.cons (o := { dst := some 35, op := Op.call { callee := Callee.value (Operand.func 80), args := #[Operand.tmp 34], argTypes := #[52] }, type := 92, pos := "l14_knowledge.go:105", after := #[{ on := 0, ground := Ground.data }], guard := none }) rfl (fun K hK => ?_) ?_
        · go_simp
          refine (i_Proof_answer x c r u2).mono ?_
          rintro e u3 ⟨rfl, hb_⟩
          have zs3 : u2.heap.size ≤ u3.heap.size := hb_.size
          have HBl3 : Hid (Below w.heap.size w u3) := Lib.hid (HBl2.out.trans (hb_.mono HBl2.out.size))
          have HX_p3 : Hid (Bx u3 w.heap.size #[.int .i64 x, .int .i64 c, .int .i64 r] 52) := Lib.hid (HX_p2.out.below hb_ HX_p2.out.lt)
          have HX_q3 : Hid (Bx u3 (w.heap.size + 1) #[.int .i64 y, .int .i64 d, .int .i64 s] 52) := Lib.hid (HX_q2.out.below hb_ HX_q2.out.lt)
          have HX_a3 : Hid (Bx u3 u0.heap.size #[.int .i64 0, .int .i64 0] 92) := Lib.hid (HX_a2.out.below hb_ HX_a2.out.lt)
          have HX_b3 : Hid (Bx u3 u1.heap.size #[.int .i64 0, .int .i64 0] 92) := Lib.hid (HX_b2.out.below hb_ HX_b2.out.lt)
          clear hHeld hb_ HBl2 HX_p2 HX_q2 HX_a2 HX_b2
          (try dsimp only)
          (try go_wp2_with fail)
          refine hK.out _ _ ⟨HX_p3.out.cell 0, HX_p3.out.cell 1, HX_p3.out.cell 2, HX_q3.out.cell 0, HX_q3.out.cell 1, HX_q3.out.cell 2⟩ (fun hHeld => ?_)
          clear hK K
          try simp only [Act.put, List.setIfInBounds_toArray, List.set_cons_zero, List.set_cons_succ]
          refine wpAnyH_ready (rs := [3]) (by kernel_rfl) (by simp) ?_
          refine AllReadyH.cons (o := { dst := some 37, op := Op.call { callee := Callee.value (Operand.func 80), args := #[Operand.tmp 36], argTypes := #[52] }, type := 92, pos := "l14_knowledge.go:105", after := #[{ on := 2, ground := Ground.data }, { on := 1, ground := Ground.chain }], guard := none }) rfl (fun K hK => ?_) ?_
          · go_simp
            refine (i_Proof_answer y d s u3).mono ?_
            rintro e u4 ⟨rfl, hb_⟩
            have zs4 : u3.heap.size ≤ u4.heap.size := hb_.size
            have HBl4 : Hid (Below w.heap.size w u4) := Lib.hid (HBl3.out.trans (hb_.mono HBl3.out.size))
            have HX_p4 : Hid (Bx u4 w.heap.size #[.int .i64 x, .int .i64 c, .int .i64 r] 52) := Lib.hid (HX_p3.out.below hb_ HX_p3.out.lt)
            have HX_q4 : Hid (Bx u4 (w.heap.size + 1) #[.int .i64 y, .int .i64 d, .int .i64 s] 52) := Lib.hid (HX_q3.out.below hb_ HX_q3.out.lt)
            have HX_a4 : Hid (Bx u4 u0.heap.size #[.int .i64 0, .int .i64 0] 92) := Lib.hid (HX_a3.out.below hb_ HX_a3.out.lt)
            have HX_b4 : Hid (Bx u4 u1.heap.size #[.int .i64 0, .int .i64 0] 92) := Lib.hid (HX_b3.out.below hb_ HX_b3.out.lt)
            clear hHeld hb_ HBl3 HX_p3 HX_q3 HX_a3 HX_b3
            (try dsimp only)
            (try go_wp2_with fail)
            refine hK.out _ _ ⟨HX_p4.out.cell 0, HX_p4.out.cell 1, HX_p4.out.cell 2, HX_q4.out.cell 0, HX_q4.out.cell 1, HX_q4.out.cell 2⟩ (fun hHeld => ?_)
            clear hK K
            try simp only [Act.put, List.setIfInBounds_toArray, List.set_cons_zero, List.set_cons_succ]
            refine wpAnyH_ready (rs := [6]) (by kernel_rfl) (by simp) ?_
            refine AllReadyH.cons (o := { dst := none, op := Op.store 92 (Operand.tmp 8) (Operand.tmp 35), type := 0, pos := "l14_knowledge.go:105", after := #[{ on := 4, ground := Ground.data }, { on := 1, ground := Ground.data }, { on := 3, ground := Ground.chain }, { on := 0, ground := Ground.phase }, { on := 1, ground := Ground.phase }, { on := 2, ground := Ground.textOnly Departure.lateStores }, { on := 3, ground := Ground.textOnly Departure.lateStoresUnsure }, { on := 4, ground := Ground.phase }, { on := 5, ground := Ground.phase }], guard := none }) rfl (fun K hK => ?_) ?_
            · have xc0 : u4.cell? ⟨u0.heap.size, 0, none⟩ = some (.int .i64 0) := HX_a4.out.cell 0
              have xf0 : u4.frozen? ⟨u0.heap.size, 0, none⟩ = false := HX_a4.out.free 0
              have xc1 : u4.cell? ⟨u0.heap.size, 1, none⟩ = some (.int .i64 0) := HX_a4.out.cell 1
              have xf1 : u4.frozen? ⟨u0.heap.size, 1, none⟩ = false := HX_a4.out.free 1
              go_simp
              obtain ⟨u5, hw5⟩ : ∃ W, Hid (((u4.setCell ⟨u0.heap.size, 0, none⟩ (.int .i64 c)).setCell ⟨u0.heap.size, 1, none⟩ (.int .i64 r)) = W) := ⟨_, Lib.hid rfl⟩
              rw [hw5.out]
              have hk5 : Kept (u0.heap.size) (u0.heap.size + 1) u4 u5 := by rw [← hw5.out]; exact ((Kept.refl _ _ _).setCell (p := ⟨u0.heap.size, 0, none⟩) (Nat.le_refl _) (Nat.lt_succ_self _) _).setCell (p := ⟨u0.heap.size, 1, none⟩) (Nat.le_refl _) (Nat.lt_succ_self _) _
              have zs5 : u4.heap.size ≤ u5.heap.size := hk5.size
              have hlo5 := HBl4.out.size
              have HBl5 : Hid (Below w.heap.size w u5) := Lib.hid (HBl4.out.trans ((hk5.to_below (by have := HX_a4.out.lt; omega)).mono (by omega)))
              have HX_a5 : Hid (Bx u5 u0.heap.size #[.int .i64 c, .int .i64 r] 92) := Lib.hid (by have := ((HX_a4.out).set 0 (.int .i64 c)).set 1 (.int .i64 r); rw [hw5.out] at this; exact this)
              have HX_p5 : Hid (Bx u5 w.heap.size #[.int .i64 x, .int .i64 c, .int .i64 r] 52) := Lib.hid (HX_p4.out.kept hk5 (by have := HX_p4.out.lt; have := HX_q4.out.lt; have := HX_a4.out.lt; have := HX_b4.out.lt; omega))
              have HX_q5 : Hid (Bx u5 (w.heap.size + 1) #[.int .i64 y, .int .i64 d, .int .i64 s] 52) := Lib.hid (HX_q4.out.kept hk5 (by have := HX_p4.out.lt; have := HX_q4.out.lt; have := HX_a4.out.lt; have := HX_b4.out.lt; omega))
              have HX_b5 : Hid (Bx u5 u1.heap.size #[.int .i64 0, .int .i64 0] 92) := Lib.hid (HX_b4.out.kept hk5 (by have := HX_p4.out.lt; have := HX_q4.out.lt; have := HX_a4.out.lt; have := HX_b4.out.lt; omega))
              clear hHeld hw5 hk5 hlo5 xc0 xf0 xc1 xf1 HBl4 HX_p4 HX_q4 HX_a4 HX_b4
              refine hK.out _ _ ⟨HX_p5.out.cell 0, HX_p5.out.cell 1, HX_p5.out.cell 2, HX_q5.out.cell 0, HX_q5.out.cell 1, HX_q5.out.cell 2⟩ (fun hHeld => ?_)
              clear hK K
              try simp only [Act.put]
              refine wpAnyH_ready (rs := [7]) (by kernel_rfl) (by simp) ?_
              refine AllReadyH.cons (o := { dst := none, op := Op.store 92 (Operand.tmp 9) (Operand.tmp 37), type := 0, pos := "l14_knowledge.go:105", after := #[{ on := 5, ground := Ground.data }, { on := 3, ground := Ground.data }, { on := 6, ground := Ground.chain }, { on := 0, ground := Ground.phase }, { on := 1, ground := Ground.phase }, { on := 2, ground := Ground.phase }, { on := 3, ground := Ground.phase }, { on := 4, ground := Ground.phase }, { on := 5, ground := Ground.phase }, { on := 6, ground := Ground.phase }], guard := none }) rfl (fun K hK => ?_) ?_
              · have xc0 : u5.cell? ⟨u1.heap.size, 0, none⟩ = some (.int .i64 0) := HX_b5.out.cell 0
                have xf0 : u5.frozen? ⟨u1.heap.size, 0, none⟩ = false := HX_b5.out.free 0
                have xc1 : u5.cell? ⟨u1.heap.size, 1, none⟩ = some (.int .i64 0) := HX_b5.out.cell 1
                have xf1 : u5.frozen? ⟨u1.heap.size, 1, none⟩ = false := HX_b5.out.free 1
                go_simp
                obtain ⟨u6, hw6⟩ : ∃ W, Hid (((u5.setCell ⟨u1.heap.size, 0, none⟩ (.int .i64 d)).setCell ⟨u1.heap.size, 1, none⟩ (.int .i64 s)) = W) := ⟨_, Lib.hid rfl⟩
                rw [hw6.out]
                have hk6 : Kept (u1.heap.size) (u1.heap.size + 1) u5 u6 := by rw [← hw6.out]; exact ((Kept.refl _ _ _).setCell (p := ⟨u1.heap.size, 0, none⟩) (Nat.le_refl _) (Nat.lt_succ_self _) _).setCell (p := ⟨u1.heap.size, 1, none⟩) (Nat.le_refl _) (Nat.lt_succ_self _) _
                have zs6 : u5.heap.size ≤ u6.heap.size := hk6.size
                have hlo6 := HBl5.out.size
                have HBl6 : Hid (Below w.heap.size w u6) := Lib.hid (HBl5.out.trans ((hk6.to_below (by have := HX_b5.out.lt; omega)).mono (by omega)))
                have HX_b6 : Hid (Bx u6 u1.heap.size #[.int .i64 d, .int .i64 s] 92) := Lib.hid (by have := ((HX_b5.out).set 0 (.int .i64 d)).set 1 (.int .i64 s); rw [hw6.out] at this; exact this)
                have HX_p6 : Hid (Bx u6 w.heap.size #[.int .i64 x, .int .i64 c, .int .i64 r] 52) := Lib.hid (HX_p5.out.kept hk6 (by have := HX_p5.out.lt; have := HX_q5.out.lt; have := HX_a5.out.lt; have := HX_b5.out.lt; omega))
                have HX_q6 : Hid (Bx u6 (w.heap.size + 1) #[.int .i64 y, .int .i64 d, .int .i64 s] 52) := Lib.hid (HX_q5.out.kept hk6 (by have := HX_p5.out.lt; have := HX_q5.out.lt; have := HX_a5.out.lt; have := HX_b5.out.lt; omega))
                have HX_a6 : Hid (Bx u6 u0.heap.size #[.int .i64 c, .int .i64 r] 92) := Lib.hid (HX_a5.out.kept hk6 (by have := HX_p5.out.lt; have := HX_q5.out.lt; have := HX_a5.out.lt; have := HX_b5.out.lt; omega))
                clear hHeld hw6 hk6 hlo6 xc0 xf0 xc1 xf1 HBl5 HX_p5 HX_q5 HX_a5 HX_b5
                refine hK.out _ _ ⟨HX_p6.out.cell 0, HX_p6.out.cell 1, HX_p6.out.cell 2, HX_q6.out.cell 0, HX_q6.out.cell 1, HX_q6.out.cell 2⟩ (fun hHeld => ?_)
                clear hK K
                try simp only [Act.put]
                refine wpAnyH_done (by kernel_rfl) ?_ _
                go_wp2
                go_meet
                case rel => exact ⟨u0.heap.size, u1.heap.size, rfl, rfl, HX_a6, HX_b6, HBl6⟩
              exact AllReadyH.nil
            exact AllReadyH.nil
          exact AllReadyH.nil
        exact AllReadyH.nil
      exact AllReadyH.nil
    refine AllReadyH.cons (o := { dst := some 9, op := Op.alloc 92, type := 0, pos := "l14_knowledge.go:105", after := #[], guard := none }) rfl (fun K hK => ?_) ?_
    · go_simp
      obtain ⟨u1, hw1⟩ : ∃ W, Hid (u0.alloc (.cells #[.int .i64 0, .int .i64 0] 92) = W) := ⟨_, Lib.hid rfl⟩
      rw [hw1.out]
      have zs1 : u0.heap.size < u1.heap.size := by rw [← hw1.out, World.size_alloc]; omega
      have HBl1 : Hid (Below w.heap.size w u1) := Lib.hid (by rw [← hw1.out]; exact HBl0.out.alloc HBl0.out.size _)
      have HX_p1 : Hid (Bx u1 w.heap.size #[.int .i64 x, .int .i64 c, .int .i64 r] 52) := Lib.hid (by rw [← hw1.out]; exact HX_p0.out.alloc _)
      have HX_q1 : Hid (Bx u1 (w.heap.size + 1) #[.int .i64 y, .int .i64 d, .int .i64 s] 52) := Lib.hid (by rw [← hw1.out]; exact HX_q0.out.alloc _)
      have HX_b1 : Hid (Bx u1 u0.heap.size #[.int .i64 0, .int .i64 0] 92) := Lib.hid (by rw [← hw1.out]; exact Bx.new _ _ _)
      have hab1 : Below u0.heap.size u0 u1 := by rw [← hw1.out]; exact (Below.refl _ _).alloc (Nat.le_refl _) _
      clear hHeld hw1 hab1 HBl0 HX_p0 HX_q0
      refine hK.out _ _ ⟨HX_p1.out.cell 0, HX_p1.out.cell 1, HX_p1.out.cell 2, HX_q1.out.cell 0, HX_q1.out.cell 1, HX_q1.out.cell 2⟩ (fun hHeld => ?_)
      clear hK K
      try simp only [Act.put, List.setIfInBounds_toArray, List.set_cons_zero, List.set_cons_succ]
      refine wpAnyH_ready (rs := [1, 4]) (by kernel_rfl) (by simp) ?_
      refine AllReadyH.cons (o := { dst := some 35, op := Op.call { callee := Callee.value (Operand.func 80), args := #[Operand.tmp 34], argTypes := #[52] }, type := 92, pos := "l14_knowledge.go:105", after := #[{ on := 0, ground := Ground.data }], guard := none }) rfl (fun K hK => ?_) ?_
      · go_simp
        refine (i_Proof_answer x c r u1).mono ?_
        rintro e u2 ⟨rfl, hb_⟩
        have zs2 : u1.heap.size ≤ u2.heap.size := hb_.size
        have HBl2 : Hid (Below w.heap.size w u2) := Lib.hid (HBl1.out.trans (hb_.mono HBl1.out.size))
        have HX_p2 : Hid (Bx u2 w.heap.size #[.int .i64 x, .int .i64 c, .int .i64 r] 52) := Lib.hid (HX_p1.out.below hb_ HX_p1.out.lt)
        have HX_q2 : Hid (Bx u2 (w.heap.size + 1) #[.int .i64 y, .int .i64 d, .int .i64 s] 52) := Lib.hid (HX_q1.out.below hb_ HX_q1.out.lt)
        have HX_b2 : Hid (Bx u2 u0.heap.size #[.int .i64 0, .int .i64 0] 92) := Lib.hid (HX_b1.out.below hb_ HX_b1.out.lt)
        clear hHeld hb_ HBl1 HX_p1 HX_q1 HX_b1
        (try dsimp only)
        (try go_wp2_with fail)
        refine hK.out _ _ ⟨HX_p2.out.cell 0, HX_p2.out.cell 1, HX_p2.out.cell 2, HX_q2.out.cell 0, HX_q2.out.cell 1, HX_q2.out.cell 2⟩ (fun hHeld => ?_)
        clear hK K
        try simp only [Act.put, List.setIfInBounds_toArray, List.set_cons_zero, List.set_cons_succ]
        refine wpAnyH_ready (rs := [3, 4]) (by kernel_rfl) (by simp) ?_
        refine AllReadyH.cons (o := { dst := some 37, op := Op.call { callee := Callee.value (Operand.func 80), args := #[Operand.tmp 36], argTypes := #[52] }, type := 92, pos := "l14_knowledge.go:105", after := #[{ on := 2, ground := Ground.data }, { on := 1, ground := Ground.chain }], guard := none }) rfl (fun K hK => ?_) ?_
        · go_simp
          refine (i_Proof_answer y d s u2).mono ?_
          rintro e u3 ⟨rfl, hb_⟩
          have zs3 : u2.heap.size ≤ u3.heap.size := hb_.size
          have HBl3 : Hid (Below w.heap.size w u3) := Lib.hid (HBl2.out.trans (hb_.mono HBl2.out.size))
          have HX_p3 : Hid (Bx u3 w.heap.size #[.int .i64 x, .int .i64 c, .int .i64 r] 52) := Lib.hid (HX_p2.out.below hb_ HX_p2.out.lt)
          have HX_q3 : Hid (Bx u3 (w.heap.size + 1) #[.int .i64 y, .int .i64 d, .int .i64 s] 52) := Lib.hid (HX_q2.out.below hb_ HX_q2.out.lt)
          have HX_b3 : Hid (Bx u3 u0.heap.size #[.int .i64 0, .int .i64 0] 92) := Lib.hid (HX_b2.out.below hb_ HX_b2.out.lt)
          clear hHeld hb_ HBl2 HX_p2 HX_q2 HX_b2
          (try dsimp only)
          (try go_wp2_with fail)
          refine hK.out _ _ ⟨HX_p3.out.cell 0, HX_p3.out.cell 1, HX_p3.out.cell 2, HX_q3.out.cell 0, HX_q3.out.cell 1, HX_q3.out.cell 2⟩ (fun hHeld => ?_)
          clear hK K
          try simp only [Act.put, List.setIfInBounds_toArray, List.set_cons_zero, List.set_cons_succ]
          refine wpAnyH_ready (rs := [4]) (by kernel_rfl) (by simp) ?_
          refine AllReadyH.cons (o := { dst := some 8, op := Op.alloc 92, type := 0, pos := "l14_knowledge.go:105", after := #[], guard := none }) rfl (fun K hK => ?_) ?_
          · go_simp
            obtain ⟨u4, hw4⟩ : ∃ W, Hid (u3.alloc (.cells #[.int .i64 0, .int .i64 0] 92) = W) := ⟨_, Lib.hid rfl⟩
            rw [hw4.out]
            have zs4 : u3.heap.size < u4.heap.size := by rw [← hw4.out, World.size_alloc]; omega
            have HBl4 : Hid (Below w.heap.size w u4) := Lib.hid (by rw [← hw4.out]; exact HBl3.out.alloc HBl3.out.size _)
            have HX_p4 : Hid (Bx u4 w.heap.size #[.int .i64 x, .int .i64 c, .int .i64 r] 52) := Lib.hid (by rw [← hw4.out]; exact HX_p3.out.alloc _)
            have HX_q4 : Hid (Bx u4 (w.heap.size + 1) #[.int .i64 y, .int .i64 d, .int .i64 s] 52) := Lib.hid (by rw [← hw4.out]; exact HX_q3.out.alloc _)
            have HX_b4 : Hid (Bx u4 u0.heap.size #[.int .i64 0, .int .i64 0] 92) := Lib.hid (by rw [← hw4.out]; exact HX_b3.out.alloc _)
            have HX_a4 : Hid (Bx u4 u3.heap.size #[.int .i64 0, .int .i64 0] 92) := Lib.hid (by rw [← hw4.out]; exact Bx.new _ _ _)
            have hab4 : Below u3.heap.size u3 u4 := by rw [← hw4.out]; exact (Below.refl _ _).alloc (Nat.le_refl _) _
            clear hHeld hw4 hab4 HBl3 HX_p3 HX_q3 HX_b3
            refine hK.out _ _ ⟨HX_p4.out.cell 0, HX_p4.out.cell 1, HX_p4.out.cell 2, HX_q4.out.cell 0, HX_q4.out.cell 1, HX_q4.out.cell 2⟩ (fun hHeld => ?_)
            clear hK K
            try simp only [Act.put, List.setIfInBounds_toArray, List.set_cons_zero, List.set_cons_succ]
            refine wpAnyH_ready (rs := [6]) (by kernel_rfl) (by simp) ?_
            refine AllReadyH.cons (o := { dst := none, op := Op.store 92 (Operand.tmp 8) (Operand.tmp 35), type := 0, pos := "l14_knowledge.go:105", after := #[{ on := 4, ground := Ground.data }, { on := 1, ground := Ground.data }, { on := 3, ground := Ground.chain }, { on := 0, ground := Ground.phase }, { on := 1, ground := Ground.phase }, { on := 2, ground := Ground.textOnly Departure.lateStores }, { on := 3, ground := Ground.textOnly Departure.lateStoresUnsure }, { on := 4, ground := Ground.phase }, { on := 5, ground := Ground.phase }], guard := none }) rfl (fun K hK => ?_) ?_
            · have xc0 : u4.cell? ⟨u3.heap.size, 0, none⟩ = some (.int .i64 0) := HX_a4.out.cell 0
              have xf0 : u4.frozen? ⟨u3.heap.size, 0, none⟩ = false := HX_a4.out.free 0
              have xc1 : u4.cell? ⟨u3.heap.size, 1, none⟩ = some (.int .i64 0) := HX_a4.out.cell 1
              have xf1 : u4.frozen? ⟨u3.heap.size, 1, none⟩ = false := HX_a4.out.free 1
              go_simp
              obtain ⟨u5, hw5⟩ : ∃ W, Hid (((u4.setCell ⟨u3.heap.size, 0, none⟩ (.int .i64 c)).setCell ⟨u3.heap.size, 1, none⟩ (.int .i64 r)) = W) := ⟨_, Lib.hid rfl⟩
              rw [hw5.out]
              have hk5 : Kept (u3.heap.size) (u3.heap.size + 1) u4 u5 := by rw [← hw5.out]; exact ((Kept.refl _ _ _).setCell (p := ⟨u3.heap.size, 0, none⟩) (Nat.le_refl _) (Nat.lt_succ_self _) _).setCell (p := ⟨u3.heap.size, 1, none⟩) (Nat.le_refl _) (Nat.lt_succ_self _) _
              have zs5 : u4.heap.size ≤ u5.heap.size := hk5.size
              have hlo5 := HBl4.out.size
              have HBl5 : Hid (Below w.heap.size w u5) := Lib.hid (HBl4.out.trans ((hk5.to_below (by have := HX_a4.out.lt; omega)).mono (by omega)))
              have HX_a5 : Hid (Bx u5 u3.heap.size #[.int .i64 c, .int .i64 r] 92) := Lib.hid (by have := ((HX_a4.out).set 0 (.int .i64 c)).set 1 (.int .i64 r); rw [hw5.out] at this; exact this)
              have HX_p5 : Hid (Bx u5 w.heap.size #[.int .i64 x, .int .i64 c, .int .i64 r] 52) := Lib.hid (HX_p4.out.kept hk5 (by have := HX_p4.out.lt; have := HX_q4.out.lt; have := HX_b4.out.lt; have := HX_a4.out.lt; omega))
              have HX_q5 : Hid (Bx u5 (w.heap.size + 1) #[.int .i64 y, .int .i64 d, .int .i64 s] 52) := Lib.hid (HX_q4.out.kept hk5 (by have := HX_p4.out.lt; have := HX_q4.out.lt; have := HX_b4.out.lt; have := HX_a4.out.lt; omega))
              have HX_b5 : Hid (Bx u5 u0.heap.size #[.int .i64 0, .int .i64 0] 92) := Lib.hid (HX_b4.out.kept hk5 (by have := HX_p4.out.lt; have := HX_q4.out.lt; have := HX_b4.out.lt; have := HX_a4.out.lt; omega))
              clear hHeld hw5 hk5 hlo5 xc0 xf0 xc1 xf1 HBl4 HX_p4 HX_q4 HX_b4 HX_a4
              refine hK.out _ _ ⟨HX_p5.out.cell 0, HX_p5.out.cell 1, HX_p5.out.cell 2, HX_q5.out.cell 0, HX_q5.out.cell 1, HX_q5.out.cell 2⟩ (fun hHeld => ?_)
              clear hK K
              try simp only [Act.put]
              refine wpAnyH_ready (rs := [7]) (by kernel_rfl) (by simp) ?_
              refine AllReadyH.cons (o := { dst := none, op := Op.store 92 (Operand.tmp 9) (Operand.tmp 37), type := 0, pos := "l14_knowledge.go:105", after := #[{ on := 5, ground := Ground.data }, { on := 3, ground := Ground.data }, { on := 6, ground := Ground.chain }, { on := 0, ground := Ground.phase }, { on := 1, ground := Ground.phase }, { on := 2, ground := Ground.phase }, { on := 3, ground := Ground.phase }, { on := 4, ground := Ground.phase }, { on := 5, ground := Ground.phase }, { on := 6, ground := Ground.phase }], guard := none }) rfl (fun K hK => ?_) ?_
              · have xc0 : u5.cell? ⟨u0.heap.size, 0, none⟩ = some (.int .i64 0) := HX_b5.out.cell 0
                have xf0 : u5.frozen? ⟨u0.heap.size, 0, none⟩ = false := HX_b5.out.free 0
                have xc1 : u5.cell? ⟨u0.heap.size, 1, none⟩ = some (.int .i64 0) := HX_b5.out.cell 1
                have xf1 : u5.frozen? ⟨u0.heap.size, 1, none⟩ = false := HX_b5.out.free 1
                go_simp
                obtain ⟨u6, hw6⟩ : ∃ W, Hid (((u5.setCell ⟨u0.heap.size, 0, none⟩ (.int .i64 d)).setCell ⟨u0.heap.size, 1, none⟩ (.int .i64 s)) = W) := ⟨_, Lib.hid rfl⟩
                rw [hw6.out]
                have hk6 : Kept (u0.heap.size) (u0.heap.size + 1) u5 u6 := by rw [← hw6.out]; exact ((Kept.refl _ _ _).setCell (p := ⟨u0.heap.size, 0, none⟩) (Nat.le_refl _) (Nat.lt_succ_self _) _).setCell (p := ⟨u0.heap.size, 1, none⟩) (Nat.le_refl _) (Nat.lt_succ_self _) _
                have zs6 : u5.heap.size ≤ u6.heap.size := hk6.size
                have hlo6 := HBl5.out.size
                have HBl6 : Hid (Below w.heap.size w u6) := Lib.hid (HBl5.out.trans ((hk6.to_below (by have := HX_b5.out.lt; omega)).mono (by omega)))
                have HX_b6 : Hid (Bx u6 u0.heap.size #[.int .i64 d, .int .i64 s] 92) := Lib.hid (by have := ((HX_b5.out).set 0 (.int .i64 d)).set 1 (.int .i64 s); rw [hw6.out] at this; exact this)
                have HX_p6 : Hid (Bx u6 w.heap.size #[.int .i64 x, .int .i64 c, .int .i64 r] 52) := Lib.hid (HX_p5.out.kept hk6 (by have := HX_p5.out.lt; have := HX_q5.out.lt; have := HX_b5.out.lt; have := HX_a5.out.lt; omega))
                have HX_q6 : Hid (Bx u6 (w.heap.size + 1) #[.int .i64 y, .int .i64 d, .int .i64 s] 52) := Lib.hid (HX_q5.out.kept hk6 (by have := HX_p5.out.lt; have := HX_q5.out.lt; have := HX_b5.out.lt; have := HX_a5.out.lt; omega))
                have HX_a6 : Hid (Bx u6 u3.heap.size #[.int .i64 c, .int .i64 r] 92) := Lib.hid (HX_a5.out.kept hk6 (by have := HX_p5.out.lt; have := HX_q5.out.lt; have := HX_b5.out.lt; have := HX_a5.out.lt; omega))
                clear hHeld hw6 hk6 hlo6 xc0 xf0 xc1 xf1 HBl5 HX_p5 HX_q5 HX_b5 HX_a5
                refine hK.out _ _ ⟨HX_p6.out.cell 0, HX_p6.out.cell 1, HX_p6.out.cell 2, HX_q6.out.cell 0, HX_q6.out.cell 1, HX_q6.out.cell 2⟩ (fun hHeld => ?_)
                clear hK K
                try simp only [Act.put]
                refine wpAnyH_done (by kernel_rfl) ?_ _
                go_wp2
                go_meet
                case rel => exact ⟨u3.heap.size, u0.heap.size, rfl, rfl, HX_a6, HX_b6, HBl6⟩
              exact AllReadyH.nil
            exact AllReadyH.nil
          exact AllReadyH.nil
        refine AllReadyH.cons (o := { dst := some 8, op := Op.alloc 92, type := 0, pos := "l14_knowledge.go:105", after := #[], guard := none }) rfl (fun K hK => ?_) ?_
        · go_simp
          obtain ⟨u3, hw3⟩ : ∃ W, Hid (u2.alloc (.cells #[.int .i64 0, .int .i64 0] 92) = W) := ⟨_, Lib.hid rfl⟩
          rw [hw3.out]
          have zs3 : u2.heap.size < u3.heap.size := by rw [← hw3.out, World.size_alloc]; omega
          have HBl3 : Hid (Below w.heap.size w u3) := Lib.hid (by rw [← hw3.out]; exact HBl2.out.alloc HBl2.out.size _)
          have HX_p3 : Hid (Bx u3 w.heap.size #[.int .i64 x, .int .i64 c, .int .i64 r] 52) := Lib.hid (by rw [← hw3.out]; exact HX_p2.out.alloc _)
          have HX_q3 : Hid (Bx u3 (w.heap.size + 1) #[.int .i64 y, .int .i64 d, .int .i64 s] 52) := Lib.hid (by rw [← hw3.out]; exact HX_q2.out.alloc _)
          have HX_b3 : Hid (Bx u3 u0.heap.size #[.int .i64 0, .int .i64 0] 92) := Lib.hid (by rw [← hw3.out]; exact HX_b2.out.alloc _)
          have HX_a3 : Hid (Bx u3 u2.heap.size #[.int .i64 0, .int .i64 0] 92) := Lib.hid (by rw [← hw3.out]; exact Bx.new _ _ _)
          have hab3 : Below u2.heap.size u2 u3 := by rw [← hw3.out]; exact (Below.refl _ _).alloc (Nat.le_refl _) _
          clear hHeld hw3 hab3 HBl2 HX_p2 HX_q2 HX_b2
          refine hK.out _ _ ⟨HX_p3.out.cell 0, HX_p3.out.cell 1, HX_p3.out.cell 2, HX_q3.out.cell 0, HX_q3.out.cell 1, HX_q3.out.cell 2⟩ (fun hHeld => ?_)
          clear hK K
          try simp only [Act.put, List.setIfInBounds_toArray, List.set_cons_zero, List.set_cons_succ]
          refine wpAnyH_ready (rs := [3]) (by kernel_rfl) (by simp) ?_
          refine AllReadyH.cons (o := { dst := some 37, op := Op.call { callee := Callee.value (Operand.func 80), args := #[Operand.tmp 36], argTypes := #[52] }, type := 92, pos := "l14_knowledge.go:105", after := #[{ on := 2, ground := Ground.data }, { on := 1, ground := Ground.chain }], guard := none }) rfl (fun K hK => ?_) ?_
          · go_simp
            refine (i_Proof_answer y d s u3).mono ?_
            rintro e u4 ⟨rfl, hb_⟩
            have zs4 : u3.heap.size ≤ u4.heap.size := hb_.size
            have HBl4 : Hid (Below w.heap.size w u4) := Lib.hid (HBl3.out.trans (hb_.mono HBl3.out.size))
            have HX_p4 : Hid (Bx u4 w.heap.size #[.int .i64 x, .int .i64 c, .int .i64 r] 52) := Lib.hid (HX_p3.out.below hb_ HX_p3.out.lt)
            have HX_q4 : Hid (Bx u4 (w.heap.size + 1) #[.int .i64 y, .int .i64 d, .int .i64 s] 52) := Lib.hid (HX_q3.out.below hb_ HX_q3.out.lt)
            have HX_b4 : Hid (Bx u4 u0.heap.size #[.int .i64 0, .int .i64 0] 92) := Lib.hid (HX_b3.out.below hb_ HX_b3.out.lt)
            have HX_a4 : Hid (Bx u4 u2.heap.size #[.int .i64 0, .int .i64 0] 92) := Lib.hid (HX_a3.out.below hb_ HX_a3.out.lt)
            clear hHeld hb_ HBl3 HX_p3 HX_q3 HX_b3 HX_a3
            (try dsimp only)
            (try go_wp2_with fail)
            refine hK.out _ _ ⟨HX_p4.out.cell 0, HX_p4.out.cell 1, HX_p4.out.cell 2, HX_q4.out.cell 0, HX_q4.out.cell 1, HX_q4.out.cell 2⟩ (fun hHeld => ?_)
            clear hK K
            try simp only [Act.put, List.setIfInBounds_toArray, List.set_cons_zero, List.set_cons_succ]
            refine wpAnyH_ready (rs := [6]) (by kernel_rfl) (by simp) ?_
            refine AllReadyH.cons (o := { dst := none, op := Op.store 92 (Operand.tmp 8) (Operand.tmp 35), type := 0, pos := "l14_knowledge.go:105", after := #[{ on := 4, ground := Ground.data }, { on := 1, ground := Ground.data }, { on := 3, ground := Ground.chain }, { on := 0, ground := Ground.phase }, { on := 1, ground := Ground.phase }, { on := 2, ground := Ground.textOnly Departure.lateStores }, { on := 3, ground := Ground.textOnly Departure.lateStoresUnsure }, { on := 4, ground := Ground.phase }, { on := 5, ground := Ground.phase }], guard := none }) rfl (fun K hK => ?_) ?_
            · have xc0 : u4.cell? ⟨u2.heap.size, 0, none⟩ = some (.int .i64 0) := HX_a4.out.cell 0
              have xf0 : u4.frozen? ⟨u2.heap.size, 0, none⟩ = false := HX_a4.out.free 0
              have xc1 : u4.cell? ⟨u2.heap.size, 1, none⟩ = some (.int .i64 0) := HX_a4.out.cell 1
              have xf1 : u4.frozen? ⟨u2.heap.size, 1, none⟩ = false := HX_a4.out.free 1
              go_simp
              obtain ⟨u5, hw5⟩ : ∃ W, Hid (((u4.setCell ⟨u2.heap.size, 0, none⟩ (.int .i64 c)).setCell ⟨u2.heap.size, 1, none⟩ (.int .i64 r)) = W) := ⟨_, Lib.hid rfl⟩
              rw [hw5.out]
              have hk5 : Kept (u2.heap.size) (u2.heap.size + 1) u4 u5 := by rw [← hw5.out]; exact ((Kept.refl _ _ _).setCell (p := ⟨u2.heap.size, 0, none⟩) (Nat.le_refl _) (Nat.lt_succ_self _) _).setCell (p := ⟨u2.heap.size, 1, none⟩) (Nat.le_refl _) (Nat.lt_succ_self _) _
              have zs5 : u4.heap.size ≤ u5.heap.size := hk5.size
              have hlo5 := HBl4.out.size
              have HBl5 : Hid (Below w.heap.size w u5) := Lib.hid (HBl4.out.trans ((hk5.to_below (by have := HX_a4.out.lt; omega)).mono (by omega)))
              have HX_a5 : Hid (Bx u5 u2.heap.size #[.int .i64 c, .int .i64 r] 92) := Lib.hid (by have := ((HX_a4.out).set 0 (.int .i64 c)).set 1 (.int .i64 r); rw [hw5.out] at this; exact this)
              have HX_p5 : Hid (Bx u5 w.heap.size #[.int .i64 x, .int .i64 c, .int .i64 r] 52) := Lib.hid (HX_p4.out.kept hk5 (by have := HX_p4.out.lt; have := HX_q4.out.lt; have := HX_b4.out.lt; have := HX_a4.out.lt; omega))
              have HX_q5 : Hid (Bx u5 (w.heap.size + 1) #[.int .i64 y, .int .i64 d, .int .i64 s] 52) := Lib.hid (HX_q4.out.kept hk5 (by have := HX_p4.out.lt; have := HX_q4.out.lt; have := HX_b4.out.lt; have := HX_a4.out.lt; omega))
              have HX_b5 : Hid (Bx u5 u0.heap.size #[.int .i64 0, .int .i64 0] 92) := Lib.hid (HX_b4.out.kept hk5 (by have := HX_p4.out.lt; have := HX_q4.out.lt; have := HX_b4.out.lt; have := HX_a4.out.lt; omega))
              clear hHeld hw5 hk5 hlo5 xc0 xf0 xc1 xf1 HBl4 HX_p4 HX_q4 HX_b4 HX_a4
              refine hK.out _ _ ⟨HX_p5.out.cell 0, HX_p5.out.cell 1, HX_p5.out.cell 2, HX_q5.out.cell 0, HX_q5.out.cell 1, HX_q5.out.cell 2⟩ (fun hHeld => ?_)
              clear hK K
              try simp only [Act.put]
              refine wpAnyH_ready (rs := [7]) (by kernel_rfl) (by simp) ?_
              refine AllReadyH.cons (o := { dst := none, op := Op.store 92 (Operand.tmp 9) (Operand.tmp 37), type := 0, pos := "l14_knowledge.go:105", after := #[{ on := 5, ground := Ground.data }, { on := 3, ground := Ground.data }, { on := 6, ground := Ground.chain }, { on := 0, ground := Ground.phase }, { on := 1, ground := Ground.phase }, { on := 2, ground := Ground.phase }, { on := 3, ground := Ground.phase }, { on := 4, ground := Ground.phase }, { on := 5, ground := Ground.phase }, { on := 6, ground := Ground.phase }], guard := none }) rfl (fun K hK => ?_) ?_
              · have xc0 : u5.cell? ⟨u0.heap.size, 0, none⟩ = some (.int .i64 0) := HX_b5.out.cell 0
                have xf0 : u5.frozen? ⟨u0.heap.size, 0, none⟩ = false := HX_b5.out.free 0
                have xc1 : u5.cell? ⟨u0.heap.size, 1, none⟩ = some (.int .i64 0) := HX_b5.out.cell 1
                have xf1 : u5.frozen? ⟨u0.heap.size, 1, none⟩ = false := HX_b5.out.free 1
                go_simp
                obtain ⟨u6, hw6⟩ : ∃ W, Hid (((u5.setCell ⟨u0.heap.size, 0, none⟩ (.int .i64 d)).setCell ⟨u0.heap.size, 1, none⟩ (.int .i64 s)) = W) := ⟨_, Lib.hid rfl⟩
                rw [hw6.out]
                have hk6 : Kept (u0.heap.size) (u0.heap.size + 1) u5 u6 := by rw [← hw6.out]; exact ((Kept.refl _ _ _).setCell (p := ⟨u0.heap.size, 0, none⟩) (Nat.le_refl _) (Nat.lt_succ_self _) _).setCell (p := ⟨u0.heap.size, 1, none⟩) (Nat.le_refl _) (Nat.lt_succ_self _) _
                have zs6 : u5.heap.size ≤ u6.heap.size := hk6.size
                have hlo6 := HBl5.out.size
                have HBl6 : Hid (Below w.heap.size w u6) := Lib.hid (HBl5.out.trans ((hk6.to_below (by have := HX_b5.out.lt; omega)).mono (by omega)))
                have HX_b6 : Hid (Bx u6 u0.heap.size #[.int .i64 d, .int .i64 s] 92) := Lib.hid (by have := ((HX_b5.out).set 0 (.int .i64 d)).set 1 (.int .i64 s); rw [hw6.out] at this; exact this)
                have HX_p6 : Hid (Bx u6 w.heap.size #[.int .i64 x, .int .i64 c, .int .i64 r] 52) := Lib.hid (HX_p5.out.kept hk6 (by have := HX_p5.out.lt; have := HX_q5.out.lt; have := HX_b5.out.lt; have := HX_a5.out.lt; omega))
                have HX_q6 : Hid (Bx u6 (w.heap.size + 1) #[.int .i64 y, .int .i64 d, .int .i64 s] 52) := Lib.hid (HX_q5.out.kept hk6 (by have := HX_p5.out.lt; have := HX_q5.out.lt; have := HX_b5.out.lt; have := HX_a5.out.lt; omega))
                have HX_a6 : Hid (Bx u6 u2.heap.size #[.int .i64 c, .int .i64 r] 92) := Lib.hid (HX_a5.out.kept hk6 (by have := HX_p5.out.lt; have := HX_q5.out.lt; have := HX_b5.out.lt; have := HX_a5.out.lt; omega))
                clear hHeld hw6 hk6 hlo6 xc0 xf0 xc1 xf1 HBl5 HX_p5 HX_q5 HX_b5 HX_a5
                refine hK.out _ _ ⟨HX_p6.out.cell 0, HX_p6.out.cell 1, HX_p6.out.cell 2, HX_q6.out.cell 0, HX_q6.out.cell 1, HX_q6.out.cell 2⟩ (fun hHeld => ?_)
                clear hK K
                try simp only [Act.put]
                refine wpAnyH_done (by kernel_rfl) ?_ _
                go_wp2
                go_meet
                case rel => exact ⟨u2.heap.size, u0.heap.size, rfl, rfl, HX_a6, HX_b6, HBl6⟩
              exact AllReadyH.nil
            exact AllReadyH.nil
          exact AllReadyH.nil
        exact AllReadyH.nil
      refine AllReadyH.cons (o := { dst := some 8, op := Op.alloc 92, type := 0, pos := "l14_knowledge.go:105", after := #[], guard := none }) rfl (fun K hK => ?_) ?_
      · go_simp
        obtain ⟨u2, hw2⟩ : ∃ W, Hid (u1.alloc (.cells #[.int .i64 0, .int .i64 0] 92) = W) := ⟨_, Lib.hid rfl⟩
        rw [hw2.out]
        have zs2 : u1.heap.size < u2.heap.size := by rw [← hw2.out, World.size_alloc]; omega
        have HBl2 : Hid (Below w.heap.size w u2) := Lib.hid (by rw [← hw2.out]; exact HBl1.out.alloc HBl1.out.size _)
        have HX_p2 : Hid (Bx u2 w.heap.size #[.int .i64 x, .int .i64 c, .int .i64 r] 52) := Lib.hid (by rw [← hw2.out]; exact HX_p1.out.alloc _)
        have HX_q2 : Hid (Bx u2 (w.heap.size + 1) #[.int .i64 y, .int .i64 d, .int .i64 s] 52) := Lib.hid (by rw [← hw2.out]; exact HX_q1.out.alloc _)
        have HX_b2 : Hid (Bx u2 u0.heap.size #[.int .i64 0, .int .i64 0] 92) := Lib.hid (by rw [← hw2.out]; exact HX_b1.out.alloc _)
        have HX_a2 : Hid (Bx u2 u1.heap.size #[.int .i64 0, .int .i64 0] 92) := Lib.hid (by rw [← hw2.out]; exact Bx.new _ _ _)
        have hab2 : Below u1.heap.size u1 u2 := by rw [← hw2.out]; exact (Below.refl _ _).alloc (Nat.le_refl _) _
        clear hHeld hw2 hab2 HBl1 HX_p1 HX_q1 HX_b1
        refine hK.out _ _ ⟨HX_p2.out.cell 0, HX_p2.out.cell 1, HX_p2.out.cell 2, HX_q2.out.cell 0, HX_q2.out.cell 1, HX_q2.out.cell 2⟩ (fun hHeld => ?_)
        clear hK K
        try simp only [Act.put, List.setIfInBounds_toArray, List.set_cons_zero, List.set_cons_succ]
        refine wpAnyH_ready (rs := [1]) (by kernel_rfl) (by simp) ?_
        refine AllReadyH.cons (o := { dst := some 35, op := Op.call { callee := Callee.value (Operand.func 80), args := #[Operand.tmp 34], argTypes := #[52] }, type := 92, pos := "l14_knowledge.go:105", after := #[{ on := 0, ground := Ground.data }], guard := none }) rfl (fun K hK => ?_) ?_
        · go_simp
          refine (i_Proof_answer x c r u2).mono ?_
          rintro e u3 ⟨rfl, hb_⟩
          have zs3 : u2.heap.size ≤ u3.heap.size := hb_.size
          have HBl3 : Hid (Below w.heap.size w u3) := Lib.hid (HBl2.out.trans (hb_.mono HBl2.out.size))
          have HX_p3 : Hid (Bx u3 w.heap.size #[.int .i64 x, .int .i64 c, .int .i64 r] 52) := Lib.hid (HX_p2.out.below hb_ HX_p2.out.lt)
          have HX_q3 : Hid (Bx u3 (w.heap.size + 1) #[.int .i64 y, .int .i64 d, .int .i64 s] 52) := Lib.hid (HX_q2.out.below hb_ HX_q2.out.lt)
          have HX_b3 : Hid (Bx u3 u0.heap.size #[.int .i64 0, .int .i64 0] 92) := Lib.hid (HX_b2.out.below hb_ HX_b2.out.lt)
          have HX_a3 : Hid (Bx u3 u1.heap.size #[.int .i64 0, .int .i64 0] 92) := Lib.hid (HX_a2.out.below hb_ HX_a2.out.lt)
          clear hHeld hb_ HBl2 HX_p2 HX_q2 HX_b2 HX_a2
          (try dsimp only)
          (try go_wp2_with fail)
          refine hK.out _ _ ⟨HX_p3.out.cell 0, HX_p3.out.cell 1, HX_p3.out.cell 2, HX_q3.out.cell 0, HX_q3.out.cell 1, HX_q3.out.cell 2⟩ (fun hHeld => ?_)
          clear hK K
          try simp only [Act.put, List.setIfInBounds_toArray, List.set_cons_zero, List.set_cons_succ]
          refine wpAnyH_ready (rs := [3]) (by kernel_rfl) (by simp) ?_
          refine AllReadyH.cons (o := { dst := some 37, op := Op.call { callee := Callee.value (Operand.func 80), args := #[Operand.tmp 36], argTypes := #[52] }, type := 92, pos := "l14_knowledge.go:105", after := #[{ on := 2, ground := Ground.data }, { on := 1, ground := Ground.chain }], guard := none }) rfl (fun K hK => ?_) ?_
          · go_simp
            refine (i_Proof_answer y d s u3).mono ?_
            rintro e u4 ⟨rfl, hb_⟩
            have zs4 : u3.heap.size ≤ u4.heap.size := hb_.size
            have HBl4 : Hid (Below w.heap.size w u4) := Lib.hid (HBl3.out.trans (hb_.mono HBl3.out.size))
            have HX_p4 : Hid (Bx u4 w.heap.size #[.int .i64 x, .int .i64 c, .int .i64 r] 52) := Lib.hid (HX_p3.out.below hb_ HX_p3.out.lt)
            have HX_q4 : Hid (Bx u4 (w.heap.size + 1) #[.int .i64 y, .int .i64 d, .int .i64 s] 52) := Lib.hid (HX_q3.out.below hb_ HX_q3.out.lt)
            have HX_b4 : Hid (Bx u4 u0.heap.size #[.int .i64 0, .int .i64 0] 92) := Lib.hid (HX_b3.out.below hb_ HX_b3.out.lt)
            have HX_a4 : Hid (Bx u4 u1.heap.size #[.int .i64 0, .int .i64 0] 92) := Lib.hid (HX_a3.out.below hb_ HX_a3.out.lt)
            clear hHeld hb_ HBl3 HX_p3 HX_q3 HX_b3 HX_a3
            (try dsimp only)
            (try go_wp2_with fail)
            refine hK.out _ _ ⟨HX_p4.out.cell 0, HX_p4.out.cell 1, HX_p4.out.cell 2, HX_q4.out.cell 0, HX_q4.out.cell 1, HX_q4.out.cell 2⟩ (fun hHeld => ?_)
            clear hK K
            try simp only [Act.put, List.setIfInBounds_toArray, List.set_cons_zero, List.set_cons_succ]
            refine wpAnyH_ready (rs := [6]) (by kernel_rfl) (by simp) ?_
            refine AllReadyH.cons (o := { dst := none, op := Op.store 92 (Operand.tmp 8) (Operand.tmp 35), type := 0, pos := "l14_knowledge.go:105", after := #[{ on := 4, ground := Ground.data }, { on := 1, ground := Ground.data }, { on := 3, ground := Ground.chain }, { on := 0, ground := Ground.phase }, { on := 1, ground := Ground.phase }, { on := 2, ground := Ground.textOnly Departure.lateStores }, { on := 3, ground := Ground.textOnly Departure.lateStoresUnsure }, { on := 4, ground := Ground.phase }, { on := 5, ground := Ground.phase }], guard := none }) rfl (fun K hK => ?_) ?_
            · have xc0 : u4.cell? ⟨u1.heap.size, 0, none⟩ = some (.int .i64 0) := HX_a4.out.cell 0
              have xf0 : u4.frozen? ⟨u1.heap.size, 0, none⟩ = false := HX_a4.out.free 0
              have xc1 : u4.cell? ⟨u1.heap.size, 1, none⟩ = some (.int .i64 0) := HX_a4.out.cell 1
              have xf1 : u4.frozen? ⟨u1.heap.size, 1, none⟩ = false := HX_a4.out.free 1
              go_simp
              obtain ⟨u5, hw5⟩ : ∃ W, Hid (((u4.setCell ⟨u1.heap.size, 0, none⟩ (.int .i64 c)).setCell ⟨u1.heap.size, 1, none⟩ (.int .i64 r)) = W) := ⟨_, Lib.hid rfl⟩
              rw [hw5.out]
              have hk5 : Kept (u1.heap.size) (u1.heap.size + 1) u4 u5 := by rw [← hw5.out]; exact ((Kept.refl _ _ _).setCell (p := ⟨u1.heap.size, 0, none⟩) (Nat.le_refl _) (Nat.lt_succ_self _) _).setCell (p := ⟨u1.heap.size, 1, none⟩) (Nat.le_refl _) (Nat.lt_succ_self _) _
              have zs5 : u4.heap.size ≤ u5.heap.size := hk5.size
              have hlo5 := HBl4.out.size
              have HBl5 : Hid (Below w.heap.size w u5) := Lib.hid (HBl4.out.trans ((hk5.to_below (by have := HX_a4.out.lt; omega)).mono (by omega)))
              have HX_a5 : Hid (Bx u5 u1.heap.size #[.int .i64 c, .int .i64 r] 92) := Lib.hid (by have := ((HX_a4.out).set 0 (.int .i64 c)).set 1 (.int .i64 r); rw [hw5.out] at this; exact this)
              have HX_p5 : Hid (Bx u5 w.heap.size #[.int .i64 x, .int .i64 c, .int .i64 r] 52) := Lib.hid (HX_p4.out.kept hk5 (by have := HX_p4.out.lt; have := HX_q4.out.lt; have := HX_b4.out.lt; have := HX_a4.out.lt; omega))
              have HX_q5 : Hid (Bx u5 (w.heap.size + 1) #[.int .i64 y, .int .i64 d, .int .i64 s] 52) := Lib.hid (HX_q4.out.kept hk5 (by have := HX_p4.out.lt; have := HX_q4.out.lt; have := HX_b4.out.lt; have := HX_a4.out.lt; omega))
              have HX_b5 : Hid (Bx u5 u0.heap.size #[.int .i64 0, .int .i64 0] 92) := Lib.hid (HX_b4.out.kept hk5 (by have := HX_p4.out.lt; have := HX_q4.out.lt; have := HX_b4.out.lt; have := HX_a4.out.lt; omega))
              clear hHeld hw5 hk5 hlo5 xc0 xf0 xc1 xf1 HBl4 HX_p4 HX_q4 HX_b4 HX_a4
              refine hK.out _ _ ⟨HX_p5.out.cell 0, HX_p5.out.cell 1, HX_p5.out.cell 2, HX_q5.out.cell 0, HX_q5.out.cell 1, HX_q5.out.cell 2⟩ (fun hHeld => ?_)
              clear hK K
              try simp only [Act.put]
              refine wpAnyH_ready (rs := [7]) (by kernel_rfl) (by simp) ?_
              refine AllReadyH.cons (o := { dst := none, op := Op.store 92 (Operand.tmp 9) (Operand.tmp 37), type := 0, pos := "l14_knowledge.go:105", after := #[{ on := 5, ground := Ground.data }, { on := 3, ground := Ground.data }, { on := 6, ground := Ground.chain }, { on := 0, ground := Ground.phase }, { on := 1, ground := Ground.phase }, { on := 2, ground := Ground.phase }, { on := 3, ground := Ground.phase }, { on := 4, ground := Ground.phase }, { on := 5, ground := Ground.phase }, { on := 6, ground := Ground.phase }], guard := none }) rfl (fun K hK => ?_) ?_
              · have xc0 : u5.cell? ⟨u0.heap.size, 0, none⟩ = some (.int .i64 0) := HX_b5.out.cell 0
                have xf0 : u5.frozen? ⟨u0.heap.size, 0, none⟩ = false := HX_b5.out.free 0
                have xc1 : u5.cell? ⟨u0.heap.size, 1, none⟩ = some (.int .i64 0) := HX_b5.out.cell 1
                have xf1 : u5.frozen? ⟨u0.heap.size, 1, none⟩ = false := HX_b5.out.free 1
                go_simp
                obtain ⟨u6, hw6⟩ : ∃ W, Hid (((u5.setCell ⟨u0.heap.size, 0, none⟩ (.int .i64 d)).setCell ⟨u0.heap.size, 1, none⟩ (.int .i64 s)) = W) := ⟨_, Lib.hid rfl⟩
                rw [hw6.out]
                have hk6 : Kept (u0.heap.size) (u0.heap.size + 1) u5 u6 := by rw [← hw6.out]; exact ((Kept.refl _ _ _).setCell (p := ⟨u0.heap.size, 0, none⟩) (Nat.le_refl _) (Nat.lt_succ_self _) _).setCell (p := ⟨u0.heap.size, 1, none⟩) (Nat.le_refl _) (Nat.lt_succ_self _) _
                have zs6 : u5.heap.size ≤ u6.heap.size := hk6.size
                have hlo6 := HBl5.out.size
                have HBl6 : Hid (Below w.heap.size w u6) := Lib.hid (HBl5.out.trans ((hk6.to_below (by have := HX_b5.out.lt; omega)).mono (by omega)))
                have HX_b6 : Hid (Bx u6 u0.heap.size #[.int .i64 d, .int .i64 s] 92) := Lib.hid (by have := ((HX_b5.out).set 0 (.int .i64 d)).set 1 (.int .i64 s); rw [hw6.out] at this; exact this)
                have HX_p6 : Hid (Bx u6 w.heap.size #[.int .i64 x, .int .i64 c, .int .i64 r] 52) := Lib.hid (HX_p5.out.kept hk6 (by have := HX_p5.out.lt; have := HX_q5.out.lt; have := HX_b5.out.lt; have := HX_a5.out.lt; omega))
                have HX_q6 : Hid (Bx u6 (w.heap.size + 1) #[.int .i64 y, .int .i64 d, .int .i64 s] 52) := Lib.hid (HX_q5.out.kept hk6 (by have := HX_p5.out.lt; have := HX_q5.out.lt; have := HX_b5.out.lt; have := HX_a5.out.lt; omega))
                have HX_a6 : Hid (Bx u6 u1.heap.size #[.int .i64 c, .int .i64 r] 92) := Lib.hid (HX_a5.out.kept hk6 (by have := HX_p5.out.lt; have := HX_q5.out.lt; have := HX_b5.out.lt; have := HX_a5.out.lt; omega))
                clear hHeld hw6 hk6 hlo6 xc0 xf0 xc1 xf1 HBl5 HX_p5 HX_q5 HX_b5 HX_a5
                refine hK.out _ _ ⟨HX_p6.out.cell 0, HX_p6.out.cell 1, HX_p6.out.cell 2, HX_q6.out.cell 0, HX_q6.out.cell 1, HX_q6.out.cell 2⟩ (fun hHeld => ?_)
                clear hK K
                try simp only [Act.put]
                refine wpAnyH_done (by kernel_rfl) ?_ _
                go_wp2
                go_meet
                case rel => exact ⟨u1.heap.size, u0.heap.size, rfl, rfl, HX_a6, HX_b6, HBl6⟩
              exact AllReadyH.nil
            exact AllReadyH.nil
          exact AllReadyH.nil
        exact AllReadyH.nil
      exact AllReadyH.nil
    exact AllReadyH.nil
  case rest =>
    obtain ⟨B1, B2, rfl, rfl, HX_a, HX_b, HB2⟩ := hcut
    have ga0 : wc.cell? ⟨B1, 0, none⟩ = some (.int .i64 c) := HX_a.out.cell 0
    have gb0 : wc.cell? ⟨B2, 0, none⟩ = some (.int .i64 d) := HX_b.out.cell 0
    have ga1 : wc.cell? ⟨B1, 1, none⟩ = some (.int .i64 r) := HX_a.out.cell 1
    have gb1 : wc.cell? ⟨B2, 1, none⟩ = some (.int .i64 s) := HX_b.out.cell 1
    go_wp2
    go_quiet ((first | (go_at_call 81; (first | with_reducible exact quiet_drewN (H_u _).out | with_reducible exact quiet_drewN (H_v _).out)) | (go_at_call 83; with_reducible exact quiet_drewN (i_inverse v _ (by omega) v1)) | (go_at_call 82; with_reducible exact quiet_drewN (i_times _ _ _ u0 u1 i0 i1))))
    go_wp2
    go_ret2
    exact ⟨rtib HF.out.1.symm HF.out.2.symm, below_drewN HB2.out _⟩

end Go.Proofs.Ytaiilopfdjbceaa
