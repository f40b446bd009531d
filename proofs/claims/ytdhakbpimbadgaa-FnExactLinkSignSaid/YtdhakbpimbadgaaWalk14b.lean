/- Chapter 14: proofs of knowledge: the functions of both sides. Made by tools/gen14/b.py. -/
import Derived.Test.YtdhakbpimbadgaaWalk14a
import Derived.Deep.Cut
import Derived.Deep.RegionWith
namespace Go.Proofs.Ytdhakbpimbadgaa
open Go.RowKit
set_option maxRecDepth 100000

theorem nums3_14 (a b c : Int) : numsB [a, b, c] = makeB a b c := by simp [numsB, makeB]
set_option maxHeartbeats 2000000 in
theorem X_s_ProofMake (s n c : Int) (w : World) :
    Calls Try.prog 40 #[.int .i64 s, .int .i64 n, .int .i64 c] w fun e w' => e = .returned (.tuple #[.agg #[.int .i64 ((makeD s n c).1), .int .i64 ((makeD s n c).2.1), .int .i64 ((makeD s n c).2.2)], .bool (makeB s n c)]) ∧ Below w.heap.size w w' := by
  obtain ⟨W0, hW0⟩ : ∃ W, Hid ((w.alloc (.cells #[.int .i64 0, .int .i64 0, .int .i64 0] 54)) = W) := ⟨_, Lib.hid rfl⟩
  have HB : Hid (Below w.heap.size w W0) := Lib.hid (by rw [← hW0.out]; exact (Below.refl _ _).alloc (Nat.le_refl _) _)
  have z_0 : w.heap.size + 1 ≤ W0.heap.size := by rw [← hW0.out]; simp only [World.size_alloc]; omega
  have HX_R : Hid (Bx W0 (w.heap.size) #[.int .i64 0, .int .i64 0, .int .i64 0] 54) := Lib.hid (by rw [← hW0.out]; have := Bx.new w #[.int .i64 0, .int .i64 0, .int .i64 0] 54; exact this)
  go_enter Try.func40, Try.ntmps40
  go_wp2_with fail
  rw [hW0.out]
  clear hW0
  refine (s_NumOk _ _).mono ?_
  rintro e w' ⟨rfl, rfl⟩
  cases hs : numB s
  · have HF : Hid (makeD s n c = (0, 0, 0) ∧ makeB s n c = false) := Lib.hid (by simp [makeD, makeB, hs])
    have fc1 : W0.cell? ⟨w.heap.size, 0, none⟩ = some (.int .i64 0) := HX_R.out.cell 0
    have fc2 : W0.cell? ⟨w.heap.size, 1, none⟩ = some (.int .i64 0) := HX_R.out.cell 1
    have fc3 : W0.cell? ⟨w.heap.size, 2, none⟩ = some (.int .i64 0) := HX_R.out.cell 2
    have fz4 : W0.frozen? ⟨w.heap.size, 0, none⟩ = false := HX_R.out.free 0
    have fz5 : W0.frozen? ⟨w.heap.size, 1, none⟩ = false := HX_R.out.free 1
    have fz6 : W0.frozen? ⟨w.heap.size, 2, none⟩ = false := HX_R.out.free 2
    go_wp2
    exact bodyPost_ret (v := .tuple #[.agg #[.int .i64 0, .int .i64 0, .int .i64 0], .bool false]) (resPf2 rfl rfl rfl ((((HX_R.out).set 0 (.int .i64 0)).set 1 (.int .i64 0)).set 2 (.int .i64 0))) rfl ⟨by rw [HF.out.1, HF.out.2], (by first | exact (((HB.out).setCell (p := ⟨w.heap.size, 0, none⟩) (by first | exact Nat.le_refl _ | (simp only; omega)) _).setCell (p := ⟨w.heap.size, 1, none⟩) (by first | exact Nat.le_refl _ | (simp only; omega)) _).setCell (p := ⟨w.heap.size, 2, none⟩) (by first | exact Nat.le_refl _ | (simp only; omega)) _ | exact ((((HB.out).setCell (p := ⟨w.heap.size, 0, none⟩) (by first | exact Nat.le_refl _ | (simp only; omega)) _).setCell (p := ⟨w.heap.size, 1, none⟩) (by first | exact Nat.le_refl _ | (simp only; omega)) _).setCell (p := ⟨w.heap.size, 2, none⟩) (by first | exact Nat.le_refl _ | (simp only; omega)) _).drew)⟩
  have fc7 : W0.cell? ⟨w.heap.size, 0, none⟩ = some (.int .i64 0) := HX_R.out.cell 0
  have fc8 : W0.cell? ⟨w.heap.size, 1, none⟩ = some (.int .i64 0) := HX_R.out.cell 1
  have fc9 : W0.cell? ⟨w.heap.size, 2, none⟩ = some (.int .i64 0) := HX_R.out.cell 2
  go_wp2_with fail
  clear fc7 fc8 fc9
  refine (s_NumOk _ _).mono ?_
  rintro e w' ⟨rfl, rfl⟩
  cases hn : numB n
  · have HF : Hid (makeD s n c = (0, 0, 0) ∧ makeB s n c = false) := Lib.hid (by simp [makeD, makeB, hs, hn])
    have fc10 : W0.cell? ⟨w.heap.size, 0, none⟩ = some (.int .i64 0) := HX_R.out.cell 0
    have fc11 : W0.cell? ⟨w.heap.size, 1, none⟩ = some (.int .i64 0) := HX_R.out.cell 1
    have fc12 : W0.cell? ⟨w.heap.size, 2, none⟩ = some (.int .i64 0) := HX_R.out.cell 2
    have fz13 : W0.frozen? ⟨w.heap.size, 0, none⟩ = false := HX_R.out.free 0
    have fz14 : W0.frozen? ⟨w.heap.size, 1, none⟩ = false := HX_R.out.free 1
    have fz15 : W0.frozen? ⟨w.heap.size, 2, none⟩ = false := HX_R.out.free 2
    go_wp2
    exact bodyPost_ret (v := .tuple #[.agg #[.int .i64 0, .int .i64 0, .int .i64 0], .bool false]) (resPf2 rfl rfl rfl ((((HX_R.out).set 0 (.int .i64 0)).set 1 (.int .i64 0)).set 2 (.int .i64 0))) rfl ⟨by rw [HF.out.1, HF.out.2], (by first | exact (((HB.out).setCell (p := ⟨w.heap.size, 0, none⟩) (by first | exact Nat.le_refl _ | (simp only; omega)) _).setCell (p := ⟨w.heap.size, 1, none⟩) (by first | exact Nat.le_refl _ | (simp only; omega)) _).setCell (p := ⟨w.heap.size, 2, none⟩) (by first | exact Nat.le_refl _ | (simp only; omega)) _ | exact ((((HB.out).setCell (p := ⟨w.heap.size, 0, none⟩) (by first | exact Nat.le_refl _ | (simp only; omega)) _).setCell (p := ⟨w.heap.size, 1, none⟩) (by first | exact Nat.le_refl _ | (simp only; omega)) _).setCell (p := ⟨w.heap.size, 2, none⟩) (by first | exact Nat.le_refl _ | (simp only; omega)) _).drew)⟩
  have fc16 : W0.cell? ⟨w.heap.size, 0, none⟩ = some (.int .i64 0) := HX_R.out.cell 0
  have fc17 : W0.cell? ⟨w.heap.size, 1, none⟩ = some (.int .i64 0) := HX_R.out.cell 1
  have fc18 : W0.cell? ⟨w.heap.size, 2, none⟩ = some (.int .i64 0) := HX_R.out.cell 2
  go_wp2_with fail
  clear fc16 fc17 fc18
  refine (s_NumOk _ _).mono ?_
  rintro e w' ⟨rfl, rfl⟩
  cases hc : numB c
  · have HF : Hid (makeD s n c = (0, 0, 0) ∧ makeB s n c = false) := Lib.hid (by simp [makeD, makeB, hs, hn, hc])
    have fc19 : W0.cell? ⟨w.heap.size, 0, none⟩ = some (.int .i64 0) := HX_R.out.cell 0
    have fc20 : W0.cell? ⟨w.heap.size, 1, none⟩ = some (.int .i64 0) := HX_R.out.cell 1
    have fc21 : W0.cell? ⟨w.heap.size, 2, none⟩ = some (.int .i64 0) := HX_R.out.cell 2
    have fz22 : W0.frozen? ⟨w.heap.size, 0, none⟩ = false := HX_R.out.free 0
    have fz23 : W0.frozen? ⟨w.heap.size, 1, none⟩ = false := HX_R.out.free 1
    have fz24 : W0.frozen? ⟨w.heap.size, 2, none⟩ = false := HX_R.out.free 2
    go_wp2
    exact bodyPost_ret (v := .tuple #[.agg #[.int .i64 0, .int .i64 0, .int .i64 0], .bool false]) (resPf2 rfl rfl rfl ((((HX_R.out).set 0 (.int .i64 0)).set 1 (.int .i64 0)).set 2 (.int .i64 0))) rfl ⟨by rw [HF.out.1, HF.out.2], (by first | exact (((HB.out).setCell (p := ⟨w.heap.size, 0, none⟩) (by first | exact Nat.le_refl _ | (simp only; omega)) _).setCell (p := ⟨w.heap.size, 1, none⟩) (by first | exact Nat.le_refl _ | (simp only; omega)) _).setCell (p := ⟨w.heap.size, 2, none⟩) (by first | exact Nat.le_refl _ | (simp only; omega)) _ | exact ((((HB.out).setCell (p := ⟨w.heap.size, 0, none⟩) (by first | exact Nat.le_refl _ | (simp only; omega)) _).setCell (p := ⟨w.heap.size, 1, none⟩) (by first | exact Nat.le_refl _ | (simp only; omega)) _).setCell (p := ⟨w.heap.size, 2, none⟩) (by first | exact Nat.le_refl _ | (simp only; omega)) _).drew)⟩
  have HF : Hid (makeD s n c = (powI 4 n 227, c, (n + c * s) % 113) ∧ makeB s n c = true) := Lib.hid (by simp [makeD, makeB, hs, hn, hc])
  obtain ⟨s0, s1⟩ := (numB_iff s).1 hs
  obtain ⟨n0, n1⟩ := (numB_iff n).1 hn
  obtain ⟨c0, c1⟩ := (numB_iff c).1 hc
  obtain ⟨m0, m1⟩ := mul_bd c s c0 c1 s0 s1
  clear hs hn hc
  have fc25 : W0.cell? ⟨w.heap.size, 0, none⟩ = some (.int .i64 0) := HX_R.out.cell 0
  have fc26 : W0.cell? ⟨w.heap.size, 1, none⟩ = some (.int .i64 0) := HX_R.out.cell 1
  have fc27 : W0.cell? ⟨w.heap.size, 2, none⟩ = some (.int .i64 0) := HX_R.out.cell 2
  go_wp2_with fail
  clear fc25 fc26 fc27
  refine (s_l1Pow 4 n _ (by omega) (by omega) (by omega) (by omega)).mono ?_
  rintro e w' ⟨rfl, rfl⟩
  have fc28 : W0.cell? ⟨w.heap.size, 0, none⟩ = some (.int .i64 0) := HX_R.out.cell 0
  have fc29 : W0.cell? ⟨w.heap.size, 1, none⟩ = some (.int .i64 0) := HX_R.out.cell 1
  have fc30 : W0.cell? ⟨w.heap.size, 2, none⟩ = some (.int .i64 0) := HX_R.out.cell 2
  have fz31 : W0.frozen? ⟨w.heap.size, 0, none⟩ = false := HX_R.out.free 0
  have fz32 : W0.frozen? ⟨w.heap.size, 1, none⟩ = false := HX_R.out.free 1
  have fz33 : W0.frozen? ⟨w.heap.size, 2, none⟩ = false := HX_R.out.free 2
  go_wp2
  exact bodyPost_ret (v := .tuple #[.agg #[.int .i64 (powI 4 n 227), .int .i64 c, .int .i64 ((n + c * s) % 113)], .bool true]) (resPf2 rfl rfl rfl ((((HX_R.out).set 0 (.int .i64 (powI 4 n 227))).set 1 (.int .i64 c)).set 2 (.int .i64 ((n + c * s) % 113)))) rfl ⟨by rw [HF.out.1, HF.out.2], (by first | exact (((HB.out).setCell (p := ⟨w.heap.size, 0, none⟩) (by first | exact Nat.le_refl _ | (simp only; omega)) _).setCell (p := ⟨w.heap.size, 1, none⟩) (by first | exact Nat.le_refl _ | (simp only; omega)) _).setCell (p := ⟨w.heap.size, 2, none⟩) (by first | exact Nat.le_refl _ | (simp only; omega)) _ | exact ((((HB.out).setCell (p := ⟨w.heap.size, 0, none⟩) (by first | exact Nat.le_refl _ | (simp only; omega)) _).setCell (p := ⟨w.heap.size, 1, none⟩) (by first | exact Nat.le_refl _ | (simp only; omega)) _).setCell (p := ⟨w.heap.size, 2, none⟩) (by first | exact Nat.le_refl _ | (simp only; omega)) _).drew)⟩

set_option maxHeartbeats 2000000 in
theorem X_s_ProofFeign (k c r : Int) (w : World) :
    Calls Try.prog 38 #[.int .i64 k, .int .i64 c, .int .i64 r] w fun e w' => e = .returned (.tuple #[.agg #[.int .i64 ((feignD k c r).1), .int .i64 ((feignD k c r).2.1), .int .i64 ((feignD k c r).2.2)], .bool (feignB k c r)]) ∧ Below w.heap.size w w' := by
  obtain ⟨W0, hW0⟩ : ∃ W, Hid ((w.alloc (.cells #[.int .i64 0, .int .i64 0, .int .i64 0] 54)) = W) := ⟨_, Lib.hid rfl⟩
  have HB : Hid (Below w.heap.size w W0) := Lib.hid (by rw [← hW0.out]; exact (Below.refl _ _).alloc (Nat.le_refl _) _)
  have z_0 : w.heap.size + 1 ≤ W0.heap.size := by rw [← hW0.out]; simp only [World.size_alloc]; omega
  have HX_R : Hid (Bx W0 (w.heap.size) #[.int .i64 0, .int .i64 0, .int .i64 0] 54) := Lib.hid (by rw [← hW0.out]; have := Bx.new w #[.int .i64 0, .int .i64 0, .int .i64 0] 54; exact this)
  go_enter Try.func38, Try.ntmps38
  go_wp2_with fail
  rw [hW0.out]
  clear hW0
  refine (s_ElementOk _ _).mono ?_
  rintro e w' ⟨rfl, rfl⟩
  cases hk : elB k
  · have HF : Hid (feignD k c r = (0, 0, 0) ∧ feignB k c r = false) := Lib.hid (by simp [feignD, feignB, hk])
    have fc1 : W0.cell? ⟨w.heap.size, 0, none⟩ = some (.int .i64 0) := HX_R.out.cell 0
    have fc2 : W0.cell? ⟨w.heap.size, 1, none⟩ = some (.int .i64 0) := HX_R.out.cell 1
    have fc3 : W0.cell? ⟨w.heap.size, 2, none⟩ = some (.int .i64 0) := HX_R.out.cell 2
    have fz4 : W0.frozen? ⟨w.heap.size, 0, none⟩ = false := HX_R.out.free 0
    have fz5 : W0.frozen? ⟨w.heap.size, 1, none⟩ = false := HX_R.out.free 1
    have fz6 : W0.frozen? ⟨w.heap.size, 2, none⟩ = false := HX_R.out.free 2
    go_wp2
    exact bodyPost_ret (v := .tuple #[.agg #[.int .i64 0, .int .i64 0, .int .i64 0], .bool false]) (resPf2 rfl rfl rfl ((((HX_R.out).set 0 (.int .i64 0)).set 1 (.int .i64 0)).set 2 (.int .i64 0))) rfl ⟨by rw [HF.out.1, HF.out.2], (by first | exact (((HB.out).setCell (p := ⟨w.heap.size, 0, none⟩) (by first | exact Nat.le_refl _ | (simp only; omega)) _).setCell (p := ⟨w.heap.size, 1, none⟩) (by first | exact Nat.le_refl _ | (simp only; omega)) _).setCell (p := ⟨w.heap.size, 2, none⟩) (by first | exact Nat.le_refl _ | (simp only; omega)) _ | exact ((((HB.out).setCell (p := ⟨w.heap.size, 0, none⟩) (by first | exact Nat.le_refl _ | (simp only; omega)) _).setCell (p := ⟨w.heap.size, 1, none⟩) (by first | exact Nat.le_refl _ | (simp only; omega)) _).setCell (p := ⟨w.heap.size, 2, none⟩) (by first | exact Nat.le_refl _ | (simp only; omega)) _).drew)⟩
  have fc7 : W0.cell? ⟨w.heap.size, 0, none⟩ = some (.int .i64 0) := HX_R.out.cell 0
  have fc8 : W0.cell? ⟨w.heap.size, 1, none⟩ = some (.int .i64 0) := HX_R.out.cell 1
  have fc9 : W0.cell? ⟨w.heap.size, 2, none⟩ = some (.int .i64 0) := HX_R.out.cell 2
  go_wp2_with fail
  clear fc7 fc8 fc9
  refine (s_NumOk _ _).mono ?_
  rintro e w' ⟨rfl, rfl⟩
  cases hc : numB c
  · have HF : Hid (feignD k c r = (0, 0, 0) ∧ feignB k c r = false) := Lib.hid (by simp [feignD, feignB, hk, hc])
    have fc10 : W0.cell? ⟨w.heap.size, 0, none⟩ = some (.int .i64 0) := HX_R.out.cell 0
    have fc11 : W0.cell? ⟨w.heap.size, 1, none⟩ = some (.int .i64 0) := HX_R.out.cell 1
    have fc12 : W0.cell? ⟨w.heap.size, 2, none⟩ = some (.int .i64 0) := HX_R.out.cell 2
    have fz13 : W0.frozen? ⟨w.heap.size, 0, none⟩ = false := HX_R.out.free 0
    have fz14 : W0.frozen? ⟨w.heap.size, 1, none⟩ = false := HX_R.out.free 1
    have fz15 : W0.frozen? ⟨w.heap.size, 2, none⟩ = false := HX_R.out.free 2
    go_wp2
    exact bodyPost_ret (v := .tuple #[.agg #[.int .i64 0, .int .i64 0, .int .i64 0], .bool false]) (resPf2 rfl rfl rfl ((((HX_R.out).set 0 (.int .i64 0)).set 1 (.int .i64 0)).set 2 (.int .i64 0))) rfl ⟨by rw [HF.out.1, HF.out.2], (by first | exact (((HB.out).setCell (p := ⟨w.heap.size, 0, none⟩) (by first | exact Nat.le_refl _ | (simp only; omega)) _).setCell (p := ⟨w.heap.size, 1, none⟩) (by first | exact Nat.le_refl _ | (simp only; omega)) _).setCell (p := ⟨w.heap.size, 2, none⟩) (by first | exact Nat.le_refl _ | (simp only; omega)) _ | exact ((((HB.out).setCell (p := ⟨w.heap.size, 0, none⟩) (by first | exact Nat.le_refl _ | (simp only; omega)) _).setCell (p := ⟨w.heap.size, 1, none⟩) (by first | exact Nat.le_refl _ | (simp only; omega)) _).setCell (p := ⟨w.heap.size, 2, none⟩) (by first | exact Nat.le_refl _ | (simp only; omega)) _).drew)⟩
  have fc16 : W0.cell? ⟨w.heap.size, 0, none⟩ = some (.int .i64 0) := HX_R.out.cell 0
  have fc17 : W0.cell? ⟨w.heap.size, 1, none⟩ = some (.int .i64 0) := HX_R.out.cell 1
  have fc18 : W0.cell? ⟨w.heap.size, 2, none⟩ = some (.int .i64 0) := HX_R.out.cell 2
  go_wp2_with fail
  clear fc16 fc17 fc18
  refine (s_NumOk _ _).mono ?_
  rintro e w' ⟨rfl, rfl⟩
  cases hr : numB r
  · have HF : Hid (feignD k c r = (0, 0, 0) ∧ feignB k c r = false) := Lib.hid (by simp [feignD, feignB, hk, hc, hr])
    have fc19 : W0.cell? ⟨w.heap.size, 0, none⟩ = some (.int .i64 0) := HX_R.out.cell 0
    have fc20 : W0.cell? ⟨w.heap.size, 1, none⟩ = some (.int .i64 0) := HX_R.out.cell 1
    have fc21 : W0.cell? ⟨w.heap.size, 2, none⟩ = some (.int .i64 0) := HX_R.out.cell 2
    have fz22 : W0.frozen? ⟨w.heap.size, 0, none⟩ = false := HX_R.out.free 0
    have fz23 : W0.frozen? ⟨w.heap.size, 1, none⟩ = false := HX_R.out.free 1
    have fz24 : W0.frozen? ⟨w.heap.size, 2, none⟩ = false := HX_R.out.free 2
    go_wp2
    exact bodyPost_ret (v := .tuple #[.agg #[.int .i64 0, .int .i64 0, .int .i64 0], .bool false]) (resPf2 rfl rfl rfl ((((HX_R.out).set 0 (.int .i64 0)).set 1 (.int .i64 0)).set 2 (.int .i64 0))) rfl ⟨by rw [HF.out.1, HF.out.2], (by first | exact (((HB.out).setCell (p := ⟨w.heap.size, 0, none⟩) (by first | exact Nat.le_refl _ | (simp only; omega)) _).setCell (p := ⟨w.heap.size, 1, none⟩) (by first | exact Nat.le_refl _ | (simp only; omega)) _).setCell (p := ⟨w.heap.size, 2, none⟩) (by first | exact Nat.le_refl _ | (simp only; omega)) _ | exact ((((HB.out).setCell (p := ⟨w.heap.size, 0, none⟩) (by first | exact Nat.le_refl _ | (simp only; omega)) _).setCell (p := ⟨w.heap.size, 1, none⟩) (by first | exact Nat.le_refl _ | (simp only; omega)) _).setCell (p := ⟨w.heap.size, 2, none⟩) (by first | exact Nat.le_refl _ | (simp only; omega)) _).drew)⟩
  obtain ⟨v, hv⟩ : ∃ v, Hid (backI 4 k r c = v) := ⟨_, Lib.hid rfl⟩
  have HF : Hid (feignD k c r = (v, c, r) ∧ feignB k c r = true) := Lib.hid (by rw [← hv.out]; simp [feignD, feignB, hk, hc, hr])
  have kE := elB_range hk
  have k0 : 0 ≤ k := by omega
  have k1 : k ≤ 226 := by omega
  clear kE
  obtain ⟨c0, c1⟩ := (numB_iff c).1 hc
  obtain ⟨r0, r1⟩ := (numB_iff r).1 hr
  clear hk hc hr
  have fc25 : W0.cell? ⟨w.heap.size, 0, none⟩ = some (.int .i64 0) := HX_R.out.cell 0
  have fc26 : W0.cell? ⟨w.heap.size, 1, none⟩ = some (.int .i64 0) := HX_R.out.cell 1
  have fc27 : W0.cell? ⟨w.heap.size, 2, none⟩ = some (.int .i64 0) := HX_R.out.cell 2
  go_wp2_with fail
  clear fc25 fc26 fc27
  refine (s_l14Back 4 k r c _ (by omega) ⟨k0, k1⟩ ⟨r0, r1⟩ ⟨c0, c1⟩).mono ?_
  rintro e w' ⟨rfl, rfl⟩
  rw [hv.out]
  have fc28 : W0.cell? ⟨w.heap.size, 0, none⟩ = some (.int .i64 0) := HX_R.out.cell 0
  have fc29 : W0.cell? ⟨w.heap.size, 1, none⟩ = some (.int .i64 0) := HX_R.out.cell 1
  have fc30 : W0.cell? ⟨w.heap.size, 2, none⟩ = some (.int .i64 0) := HX_R.out.cell 2
  have fz31 : W0.frozen? ⟨w.heap.size, 0, none⟩ = false := HX_R.out.free 0
  have fz32 : W0.frozen? ⟨w.heap.size, 1, none⟩ = false := HX_R.out.free 1
  have fz33 : W0.frozen? ⟨w.heap.size, 2, none⟩ = false := HX_R.out.free 2
  go_wp2
  exact bodyPost_ret (v := .tuple #[.agg #[.int .i64 v, .int .i64 c, .int .i64 r], .bool true]) (resPf2 rfl rfl rfl ((((HX_R.out).set 0 (.int .i64 v)).set 1 (.int .i64 c)).set 2 (.int .i64 r))) rfl ⟨by rw [HF.out.1, HF.out.2], (by first | exact (((HB.out).setCell (p := ⟨w.heap.size, 0, none⟩) (by first | exact Nat.le_refl _ | (simp only; omega)) _).setCell (p := ⟨w.heap.size, 1, none⟩) (by first | exact Nat.le_refl _ | (simp only; omega)) _).setCell (p := ⟨w.heap.size, 2, none⟩) (by first | exact Nat.le_refl _ | (simp only; omega)) _ | exact ((((HB.out).setCell (p := ⟨w.heap.size, 0, none⟩) (by first | exact Nat.le_refl _ | (simp only; omega)) _).setCell (p := ⟨w.heap.size, 1, none⟩) (by first | exact Nat.le_refl _ | (simp only; omega)) _).setCell (p := ⟨w.heap.size, 2, none⟩) (by first | exact Nat.le_refl _ | (simp only; omega)) _).drew)⟩

set_option maxHeartbeats 2000000 in
theorem X_i_ProofFeign (k c r : Int) (w : World) :
    Calls Try.prog 103 #[.int .i64 k, .int .i64 c, .int .i64 r] w fun e w' => e = .returned (.tuple #[.agg #[.int .i64 ((feignD k c r).1), .int .i64 ((feignD k c r).2.1), .int .i64 ((feignD k c r).2.2)], .bool (feignB k c r)]) ∧ Below w.heap.size w w' := by
  obtain ⟨W0, hW0⟩ : ∃ W, Hid (((w.alloc (.cells #[.int .i64 0, .int .i64 0, .int .i64 0] 54)).alloc (.cells #[.int .i64 c, .int .i64 r] 64)) = W) := ⟨_, Lib.hid rfl⟩
  have HB : Hid (Below w.heap.size w W0) := Lib.hid (by rw [← hW0.out]; exact ((Below.refl _ _).alloc (Nat.le_refl _) _).alloc (by simp only [World.size_alloc]; omega) _)
  have z_0 : w.heap.size + 2 ≤ W0.heap.size := by rw [← hW0.out]; simp only [World.size_alloc]; omega
  have HX_R : Hid (Bx W0 (w.heap.size) #[.int .i64 0, .int .i64 0, .int .i64 0] 54) := Lib.hid (by rw [← hW0.out]; have := Bx.new w #[.int .i64 0, .int .i64 0, .int .i64 0] 54; exact (this.alloc _))
  have HX_a : Hid (Bx W0 (w.heap.size + 1) #[.int .i64 c, .int .i64 r] 64) := Lib.hid (by rw [← hW0.out]; have := Bx.new (w.alloc (.cells #[.int .i64 0, .int .i64 0, .int .i64 0] 54)) #[.int .i64 c, .int .i64 r] 64; simp only [World.size_alloc] at this; exact this)
  go_enter Try.func103, Try.ntmps103
  go_wp2_with fail
  rw [hW0.out]
  clear hW0
  refine (i_ElementOk _ _).mono ?_
  rintro e w' ⟨rfl, rfl⟩
  cases hk : elB k
  · have HF : Hid (feignD k c r = (0, 0, 0) ∧ feignB k c r = false) := Lib.hid (by simp [feignD, feignB, hk])
    have fc1 : W0.cell? ⟨w.heap.size, 0, none⟩ = some (.int .i64 0) := HX_R.out.cell 0
    have fc2 : W0.cell? ⟨w.heap.size, 1, none⟩ = some (.int .i64 0) := HX_R.out.cell 1
    have fc3 : W0.cell? ⟨w.heap.size, 2, none⟩ = some (.int .i64 0) := HX_R.out.cell 2
    have fc4 : W0.cell? ⟨(w.heap.size + 1), 0, none⟩ = some (.int .i64 c) := HX_a.out.cell 0
    have fc5 : W0.cell? ⟨(w.heap.size + 1), 1, none⟩ = some (.int .i64 r) := HX_a.out.cell 1
    have fz6 : W0.frozen? ⟨w.heap.size, 0, none⟩ = false := HX_R.out.free 0
    have fz7 : W0.frozen? ⟨w.heap.size, 1, none⟩ = false := HX_R.out.free 1
    have fz8 : W0.frozen? ⟨w.heap.size, 2, none⟩ = false := HX_R.out.free 2
    go_wp2
    exact bodyPost_ret (v := .tuple #[.agg #[.int .i64 0, .int .i64 0, .int .i64 0], .bool false]) (resPf2 rfl rfl rfl ((((HX_R.out).set 0 (.int .i64 0)).set 1 (.int .i64 0)).set 2 (.int .i64 0))) rfl ⟨by rw [HF.out.1, HF.out.2], (by first | exact (((HB.out).setCell (p := ⟨w.heap.size, 0, none⟩) (by first | exact Nat.le_refl _ | (simp only; omega)) _).setCell (p := ⟨w.heap.size, 1, none⟩) (by first | exact Nat.le_refl _ | (simp only; omega)) _).setCell (p := ⟨w.heap.size, 2, none⟩) (by first | exact Nat.le_refl _ | (simp only; omega)) _ | exact ((((HB.out).setCell (p := ⟨w.heap.size, 0, none⟩) (by first | exact Nat.le_refl _ | (simp only; omega)) _).setCell (p := ⟨w.heap.size, 1, none⟩) (by first | exact Nat.le_refl _ | (simp only; omega)) _).setCell (p := ⟨w.heap.size, 2, none⟩) (by first | exact Nat.le_refl _ | (simp only; omega)) _).drew)⟩
  have fc9 : W0.cell? ⟨w.heap.size, 0, none⟩ = some (.int .i64 0) := HX_R.out.cell 0
  have fc10 : W0.cell? ⟨w.heap.size, 1, none⟩ = some (.int .i64 0) := HX_R.out.cell 1
  have fc11 : W0.cell? ⟨w.heap.size, 2, none⟩ = some (.int .i64 0) := HX_R.out.cell 2
  have fc12 : W0.cell? ⟨(w.heap.size + 1), 0, none⟩ = some (.int .i64 c) := HX_a.out.cell 0
  have fc13 : W0.cell? ⟨(w.heap.size + 1), 1, none⟩ = some (.int .i64 r) := HX_a.out.cell 1
  go_wp2_with fail
  clear fc9 fc10 fc11 fc12 fc13
  refine (i_an_ok c r _).mono ?_
  rintro e w14 ⟨rfl, hb⟩
  have z14 : W0.heap.size ≤ w14.heap.size := hb.size
  replace HX_R := Lib.hid (HX_R.out.below hb HX_R.out.lt)
  replace HX_a := Lib.hid (HX_a.out.below hb HX_a.out.lt)
  replace HB := Lib.hid (HB.out.trans (hb.mono (by omega)))
  clear hb
  cases hcr : (numB c && numB r)
  · have HF : Hid (feignD k c r = (0, 0, 0) ∧ feignB k c r = false) := Lib.hid (by simp [feignD, feignB, hk, hcr])
    have fc15 : w14.cell? ⟨w.heap.size, 0, none⟩ = some (.int .i64 0) := HX_R.out.cell 0
    have fc16 : w14.cell? ⟨w.heap.size, 1, none⟩ = some (.int .i64 0) := HX_R.out.cell 1
    have fc17 : w14.cell? ⟨w.heap.size, 2, none⟩ = some (.int .i64 0) := HX_R.out.cell 2
    have fc18 : w14.cell? ⟨(w.heap.size + 1), 0, none⟩ = some (.int .i64 c) := HX_a.out.cell 0
    have fc19 : w14.cell? ⟨(w.heap.size + 1), 1, none⟩ = some (.int .i64 r) := HX_a.out.cell 1
    have fz20 : w14.frozen? ⟨w.heap.size, 0, none⟩ = false := HX_R.out.free 0
    have fz21 : w14.frozen? ⟨w.heap.size, 1, none⟩ = false := HX_R.out.free 1
    have fz22 : w14.frozen? ⟨w.heap.size, 2, none⟩ = false := HX_R.out.free 2
    go_wp2
    exact bodyPost_ret (v := .tuple #[.agg #[.int .i64 0, .int .i64 0, .int .i64 0], .bool false]) (resPf2 rfl rfl rfl ((((HX_R.out).set 0 (.int .i64 0)).set 1 (.int .i64 0)).set 2 (.int .i64 0))) rfl ⟨by rw [HF.out.1, HF.out.2], (by first | exact (((HB.out).setCell (p := ⟨w.heap.size, 0, none⟩) (by first | exact Nat.le_refl _ | (simp only; omega)) _).setCell (p := ⟨w.heap.size, 1, none⟩) (by first | exact Nat.le_refl _ | (simp only; omega)) _).setCell (p := ⟨w.heap.size, 2, none⟩) (by first | exact Nat.le_refl _ | (simp only; omega)) _ | exact ((((HB.out).setCell (p := ⟨w.heap.size, 0, none⟩) (by first | exact Nat.le_refl _ | (simp only; omega)) _).setCell (p := ⟨w.heap.size, 1, none⟩) (by first | exact Nat.le_refl _ | (simp only; omega)) _).setCell (p := ⟨w.heap.size, 2, none⟩) (by first | exact Nat.le_refl _ | (simp only; omega)) _).drew)⟩
  simp only [Bool.and_eq_true] at hcr
  obtain ⟨hc, hr⟩ := hcr
  obtain ⟨v, hv⟩ : ∃ v, Hid (backI 4 k r c = v) := ⟨_, Lib.hid rfl⟩
  have HF : Hid (feignD k c r = (v, c, r) ∧ feignB k c r = true) := Lib.hid (by rw [← hv.out]; simp [feignD, feignB, hk, hc, hr])
  have kE := elB_range hk
  have k0 : 0 ≤ k := by omega
  have k1 : k ≤ 226 := by omega
  clear kE
  obtain ⟨c0, c1⟩ := (numB_iff c).1 hc
  obtain ⟨r0, r1⟩ := (numB_iff r).1 hr
  clear hk hc hr
  have fc23 : w14.cell? ⟨w.heap.size, 0, none⟩ = some (.int .i64 0) := HX_R.out.cell 0
  have fc24 : w14.cell? ⟨w.heap.size, 1, none⟩ = some (.int .i64 0) := HX_R.out.cell 1
  have fc25 : w14.cell? ⟨w.heap.size, 2, none⟩ = some (.int .i64 0) := HX_R.out.cell 2
  have fc26 : w14.cell? ⟨(w.heap.size + 1), 0, none⟩ = some (.int .i64 c) := HX_a.out.cell 0
  have fc27 : w14.cell? ⟨(w.heap.size + 1), 1, none⟩ = some (.int .i64 r) := HX_a.out.cell 1
  go_wp2_with fail
  clear fc23 fc24 fc25 fc26 fc27
  refine (i_an_proof c r k _ c0 c1 r0 r1 k0 k1).mono ?_
  rintro e w28 ⟨rfl, hb⟩
  have z28 : w14.heap.size ≤ w28.heap.size := hb.size
  replace HX_R := Lib.hid (HX_R.out.below hb HX_R.out.lt)
  replace HX_a := Lib.hid (HX_a.out.below hb HX_a.out.lt)
  replace HB := Lib.hid (HB.out.trans (hb.mono (by omega)))
  clear hb
  rw [hv.out]
  have fc29 : w28.cell? ⟨w.heap.size, 0, none⟩ = some (.int .i64 0) := HX_R.out.cell 0
  have fc30 : w28.cell? ⟨w.heap.size, 1, none⟩ = some (.int .i64 0) := HX_R.out.cell 1
  have fc31 : w28.cell? ⟨w.heap.size, 2, none⟩ = some (.int .i64 0) := HX_R.out.cell 2
  have fc32 : w28.cell? ⟨(w.heap.size + 1), 0, none⟩ = some (.int .i64 c) := HX_a.out.cell 0
  have fc33 : w28.cell? ⟨(w.heap.size + 1), 1, none⟩ = some (.int .i64 r) := HX_a.out.cell 1
  have fz34 : w28.frozen? ⟨w.heap.size, 0, none⟩ = false := HX_R.out.free 0
  have fz35 : w28.frozen? ⟨w.heap.size, 1, none⟩ = false := HX_R.out.free 1
  have fz36 : w28.frozen? ⟨w.heap.size, 2, none⟩ = false := HX_R.out.free 2
  go_wp2
  exact bodyPost_ret (v := .tuple #[.agg #[.int .i64 v, .int .i64 c, .int .i64 r], .bool true]) (resPf2 rfl rfl rfl ((((HX_R.out).set 0 (.int .i64 v)).set 1 (.int .i64 c)).set 2 (.int .i64 r))) rfl ⟨by rw [HF.out.1, HF.out.2], (by first | exact (((HB.out).setCell (p := ⟨w.heap.size, 0, none⟩) (by first | exact Nat.le_refl _ | (simp only; omega)) _).setCell (p := ⟨w.heap.size, 1, none⟩) (by first | exact Nat.le_refl _ | (simp only; omega)) _).setCell (p := ⟨w.heap.size, 2, none⟩) (by first | exact Nat.le_refl _ | (simp only; omega)) _ | exact ((((HB.out).setCell (p := ⟨w.heap.size, 0, none⟩) (by first | exact Nat.le_refl _ | (simp only; omega)) _).setCell (p := ⟨w.heap.size, 1, none⟩) (by first | exact Nat.le_refl _ | (simp only; omega)) _).setCell (p := ⟨w.heap.size, 2, none⟩) (by first | exact Nat.le_refl _ | (simp only; omega)) _).drew)⟩

set_option maxHeartbeats 2000000 in
theorem X_s_ProofGood (k x c r : Int) (w : World) :
    Calls Try.prog 73 #[.int .i64 k, .agg #[.int .i64 x, .int .i64 c, .int .i64 r]] w fun e w' => e = .returned (.bool (goodB k x c r)) ∧ Below w.heap.size w w' := by
  obtain ⟨W0, hW0⟩ : ∃ W, Hid ((w.alloc (.cells #[.int .i64 x, .int .i64 c, .int .i64 r] 54)) = W) := ⟨_, Lib.hid rfl⟩
  have HB : Hid (Below w.heap.size w W0) := Lib.hid (by rw [← hW0.out]; exact (Below.refl _ _).alloc (Nat.le_refl _) _)
  have z_0 : w.heap.size + 1 ≤ W0.heap.size := by rw [← hW0.out]; simp only [World.size_alloc]; omega
  have HX_p : Hid (Bx W0 (w.heap.size) #[.int .i64 x, .int .i64 c, .int .i64 r] 54) := Lib.hid (by rw [← hW0.out]; have := Bx.new w #[.int .i64 x, .int .i64 c, .int .i64 r] 54; exact this)
  go_enter Try.func73, Try.ntmps73
  go_wp2_with fail
  rw [hW0.out]
  clear hW0
  refine (s_ElementOk _ _).mono ?_
  rintro e w' ⟨rfl, rfl⟩
  cases hk : elB k
  · have HF : Hid (false = goodB k x c r) := Lib.hid (by simp [goodB, hk])
    have fc1 : W0.cell? ⟨w.heap.size, 0, none⟩ = some (.int .i64 x) := HX_p.out.cell 0
    have fc2 : W0.cell? ⟨w.heap.size, 1, none⟩ = some (.int .i64 c) := HX_p.out.cell 1
    have fc3 : W0.cell? ⟨w.heap.size, 2, none⟩ = some (.int .i64 r) := HX_p.out.cell 2
    go_wp2
    go_ret
    exact ⟨ret_bool HF.out, HB.out⟩
  have fc4 : W0.cell? ⟨w.heap.size, 0, none⟩ = some (.int .i64 x) := HX_p.out.cell 0
  have fc5 : W0.cell? ⟨w.heap.size, 1, none⟩ = some (.int .i64 c) := HX_p.out.cell 1
  have fc6 : W0.cell? ⟨w.heap.size, 2, none⟩ = some (.int .i64 r) := HX_p.out.cell 2
  go_wp2_with fail
  clear fc4 fc5 fc6
  refine (s_ElementOk _ _).mono ?_
  rintro e w' ⟨rfl, rfl⟩
  cases hx : elB x
  · have HF : Hid (false = goodB k x c r) := Lib.hid (by simp [goodB, hk, hx])
    have fc7 : W0.cell? ⟨w.heap.size, 0, none⟩ = some (.int .i64 x) := HX_p.out.cell 0
    have fc8 : W0.cell? ⟨w.heap.size, 1, none⟩ = some (.int .i64 c) := HX_p.out.cell 1
    have fc9 : W0.cell? ⟨w.heap.size, 2, none⟩ = some (.int .i64 r) := HX_p.out.cell 2
    go_wp2
    go_ret
    exact ⟨ret_bool HF.out, HB.out⟩
  have fc10 : W0.cell? ⟨w.heap.size, 0, none⟩ = some (.int .i64 x) := HX_p.out.cell 0
  have fc11 : W0.cell? ⟨w.heap.size, 1, none⟩ = some (.int .i64 c) := HX_p.out.cell 1
  have fc12 : W0.cell? ⟨w.heap.size, 2, none⟩ = some (.int .i64 r) := HX_p.out.cell 2
  go_wp2_with fail
  clear fc10 fc11 fc12
  refine (s_NumOk _ _).mono ?_
  rintro e w' ⟨rfl, rfl⟩
  cases hc : numB c
  · have HF : Hid (false = goodB k x c r) := Lib.hid (by simp [goodB, hk, hx, hc])
    have fc13 : W0.cell? ⟨w.heap.size, 0, none⟩ = some (.int .i64 x) := HX_p.out.cell 0
    have fc14 : W0.cell? ⟨w.heap.size, 1, none⟩ = some (.int .i64 c) := HX_p.out.cell 1
    have fc15 : W0.cell? ⟨w.heap.size, 2, none⟩ = some (.int .i64 r) := HX_p.out.cell 2
    go_wp2
    go_ret
    exact ⟨ret_bool HF.out, HB.out⟩
  have fc16 : W0.cell? ⟨w.heap.size, 0, none⟩ = some (.int .i64 x) := HX_p.out.cell 0
  have fc17 : W0.cell? ⟨w.heap.size, 1, none⟩ = some (.int .i64 c) := HX_p.out.cell 1
  have fc18 : W0.cell? ⟨w.heap.size, 2, none⟩ = some (.int .i64 r) := HX_p.out.cell 2
  go_wp2_with fail
  clear fc16 fc17 fc18
  refine (s_NumOk _ _).mono ?_
  rintro e w' ⟨rfl, rfl⟩
  cases hr : numB r
  · have HF : Hid (false = goodB k x c r) := Lib.hid (by simp [goodB, hk, hx, hc, hr])
    have fc19 : W0.cell? ⟨w.heap.size, 0, none⟩ = some (.int .i64 x) := HX_p.out.cell 0
    have fc20 : W0.cell? ⟨w.heap.size, 1, none⟩ = some (.int .i64 c) := HX_p.out.cell 1
    have fc21 : W0.cell? ⟨w.heap.size, 2, none⟩ = some (.int .i64 r) := HX_p.out.cell 2
    go_wp2
    go_ret
    exact ⟨ret_bool HF.out, HB.out⟩
  obtain ⟨u, hu⟩ : ∃ u, Hid (powI 4 r 227 = u) := ⟨_, Lib.hid rfl⟩
  obtain ⟨v, hv⟩ : ∃ v, Hid (powI k c 227 = v) := ⟨_, Lib.hid rfl⟩
  have v0 : 0 ≤ v := by rw [← hv.out]; exact powI_lo _ _ _
  have v1 : v ≤ 226 := by rw [← hv.out]; exact (powI_bd _ _).2
  have HF : Hid ((u == x * v % 227) = goodB k x c r) := Lib.hid (by rw [← hu.out, ← hv.out, Bool.eq_iff_iff]; simp [goodB, hk, hx, hc, hr])
  have kE := elB_range hk
  have k0 : 0 ≤ k := by omega
  have k1 : k ≤ 226 := by omega
  clear kE
  have xE := elB_range hx
  have x0 : 0 ≤ x := by omega
  have x1 : x ≤ 226 := by omega
  clear xE
  obtain ⟨c0, c1⟩ := (numB_iff c).1 hc
  obtain ⟨r0, r1⟩ := (numB_iff r).1 hr
  obtain ⟨m0, m1⟩ := mul_bd2 _ _ x0 x1 v0 v1
  clear hk hx hc hr
  have H_u : ∀ W : World, Hid (Calls Try.prog 54 #[.int .i64 4, .int .i64 r] W fun e w' => e = .returned (.int .i64 u) ∧ W = w') := fun W => Lib.hid (by rw [← hu.out]; exact s_l1Pow 4 r W (by omega) (by omega) (by omega) (by omega))
  have H_v : ∀ W : World, Hid (Calls Try.prog 54 #[.int .i64 k, .int .i64 c] W fun e w' => e = .returned (.int .i64 v) ∧ W = w') := fun W => Lib.hid (by rw [← hv.out]; exact s_l1Pow k c W (by omega) (by omega) (by omega) (by omega))
  have fc22 : W0.cell? ⟨w.heap.size, 0, none⟩ = some (.int .i64 x) := HX_p.out.cell 0
  have fc23 : W0.cell? ⟨w.heap.size, 1, none⟩ = some (.int .i64 c) := HX_p.out.cell 1
  have fc24 : W0.cell? ⟨w.heap.size, 2, none⟩ = some (.int .i64 r) := HX_p.out.cell 2
  go_wp2
  clear fc22 fc23 fc24
  have fc25 : W0.cell? ⟨w.heap.size, 0, none⟩ = some (.int .i64 x) := HX_p.out.cell 0
  have fc26 : W0.cell? ⟨w.heap.size, 1, none⟩ = some (.int .i64 c) := HX_p.out.cell 1
  have fc27 : W0.cell? ⟨w.heap.size, 2, none⟩ = some (.int .i64 r) := HX_p.out.cell 2
  go_quiet ((go_at_call 54; (first | with_reducible exact quiet_drewN (H_u _).out | with_reducible exact quiet_drewN (H_v _).out)))
  go_wp2
  go_ret
  exact ⟨ret_bool HF.out, below_drewN HB.out _⟩

set_option maxHeartbeats 2000000 in
theorem X_i_ProofGood (k x c r : Int) (w : World) :
    Calls Try.prog 69 #[.int .i64 k, .agg #[.int .i64 x, .int .i64 c, .int .i64 r]] w fun e w' => e = .returned (.bool (goodB k x c r)) ∧ Below w.heap.size w w' := by
  obtain ⟨W0, hW0⟩ : ∃ W, Hid ((w.alloc (.cells #[.int .i64 x, .int .i64 c, .int .i64 r] 54)) = W) := ⟨_, Lib.hid rfl⟩
  have HB : Hid (Below w.heap.size w W0) := Lib.hid (by rw [← hW0.out]; exact (Below.refl _ _).alloc (Nat.le_refl _) _)
  have z_0 : w.heap.size + 1 ≤ W0.heap.size := by rw [← hW0.out]; simp only [World.size_alloc]; omega
  have HX_p : Hid (Bx W0 (w.heap.size) #[.int .i64 x, .int .i64 c, .int .i64 r] 54) := Lib.hid (by rw [← hW0.out]; have := Bx.new w #[.int .i64 x, .int .i64 c, .int .i64 r] 54; exact this)
  go_enter Try.func69, Try.ntmps69
  go_wp2_with fail
  rw [hW0.out]
  clear hW0
  refine (X_i_ProofFeign k c r _).mono ?_
  rintro e w1 ⟨rfl, hb⟩
  have z1 : W0.heap.size ≤ w1.heap.size := hb.size
  replace HX_p := Lib.hid (HX_p.out.below hb HX_p.out.lt)
  replace HB := Lib.hid (HB.out.trans (hb.mono (by omega)))
  clear hb
  cases hf : feignB k c r
  · have HF : Hid (false = goodB k x c r) := Lib.hid (by rw [good_is, hf]; rfl)
    have HD : Hid (feignD k c r = (0, 0, 0)) := Lib.hid (by simp [feignD, hf])
    rw [HD.out]
    have fc2 : (w1.alloc (.cells #[.int .i64 0, .int .i64 0, .int .i64 0] 54)).cell? ⟨w.heap.size, 0, none⟩ = some (.int .i64 x) := (HX_p.out.alloc _).cell 0
    have fc3 : (w1.alloc (.cells #[.int .i64 0, .int .i64 0, .int .i64 0] 54)).cell? ⟨w.heap.size, 1, none⟩ = some (.int .i64 c) := (HX_p.out.alloc _).cell 1
    have fc4 : (w1.alloc (.cells #[.int .i64 0, .int .i64 0, .int .i64 0] 54)).cell? ⟨w.heap.size, 2, none⟩ = some (.int .i64 r) := (HX_p.out.alloc _).cell 2
    go_wp2
    clear fc2 fc3 fc4
    obtain ⟨w5, hW5⟩ : ∃ W, Hid (w1.alloc (.cells #[.int .i64 0, .int .i64 0, .int .i64 0] 54) = W) := ⟨_, Lib.hid rfl⟩
    try rw [hW5.out]
    have z5 : w1.heap.size < w5.heap.size := by rw [← hW5.out, World.size_alloc]; omega
    have ha5 : Below w1.heap.size w1 w5 := by rw [← hW5.out]; exact (Below.refl _ _).alloc (Nat.le_refl _) _
    replace HX_p := Lib.hid (HX_p.out.below ha5 HX_p.out.lt)
    have HX_g : Hid (Bx w5 w1.heap.size #[.int .i64 0, .int .i64 0, .int .i64 0] 54) := Lib.hid (by rw [← hW5.out]; exact Bx.new _ _ _)
    replace HB := Lib.hid (HB.out.trans (ha5.mono (by omega)))
    clear ha5 hW5
    go_ret
    exact ⟨ret_bool HF.out, HB.out⟩
  obtain ⟨v, hv⟩ : ∃ v, Hid (backI 4 k r c = v) := ⟨_, Lib.hid rfl⟩
  have HD : Hid (feignD k c r = (v, c, r)) := Lib.hid (by rw [← hv.out]; simp [feignD, hf])
  have HF : Hid (decide (x = v) = goodB k x c r) := Lib.hid (by rw [good_is, hf, ← hv.out]; rfl)
  rw [HD.out]
  by_cases hxv : x = v
  · have HF2 : Hid (true = goodB k x c r) := Lib.hid (by rw [← HF.out]; simp [hxv])
    subst hxv
    have fc6 : (w1.alloc (.cells #[.int .i64 x, .int .i64 c, .int .i64 r] 54)).cell? ⟨w.heap.size, 0, none⟩ = some (.int .i64 x) := (HX_p.out.alloc _).cell 0
    have fc7 : (w1.alloc (.cells #[.int .i64 x, .int .i64 c, .int .i64 r] 54)).cell? ⟨w.heap.size, 1, none⟩ = some (.int .i64 c) := (HX_p.out.alloc _).cell 1
    have fc8 : (w1.alloc (.cells #[.int .i64 x, .int .i64 c, .int .i64 r] 54)).cell? ⟨w.heap.size, 2, none⟩ = some (.int .i64 r) := (HX_p.out.alloc _).cell 2
    go_wp2
    clear fc6 fc7 fc8
    obtain ⟨w9, hW9⟩ : ∃ W, Hid (w1.alloc (.cells #[.int .i64 x, .int .i64 c, .int .i64 r] 54) = W) := ⟨_, Lib.hid rfl⟩
    try rw [hW9.out]
    have z9 : w1.heap.size < w9.heap.size := by rw [← hW9.out, World.size_alloc]; omega
    have ha9 : Below w1.heap.size w1 w9 := by rw [← hW9.out]; exact (Below.refl _ _).alloc (Nat.le_refl _) _
    replace HX_p := Lib.hid (HX_p.out.below ha9 HX_p.out.lt)
    have HX_g : Hid (Bx w9 w1.heap.size #[.int .i64 x, .int .i64 c, .int .i64 r] 54) := Lib.hid (by rw [← hW9.out]; exact Bx.new _ _ _)
    replace HB := Lib.hid (HB.out.trans (ha9.mono (by omega)))
    clear ha9 hW9
    go_ret
    exact ⟨ret_bool HF2.out, HB.out⟩
  have HF2 : Hid (false = goodB k x c r) := Lib.hid (by rw [← HF.out]; simp [hxv])
  have e1 : (v == x) = false := by rw [beq_eq_false_iff_ne]; exact fun h => hxv h.symm
  have fc10 : (w1.alloc (.cells #[.int .i64 v, .int .i64 c, .int .i64 r] 54)).cell? ⟨w.heap.size, 0, none⟩ = some (.int .i64 x) := (HX_p.out.alloc _).cell 0
  have fc11 : (w1.alloc (.cells #[.int .i64 v, .int .i64 c, .int .i64 r] 54)).cell? ⟨w.heap.size, 1, none⟩ = some (.int .i64 c) := (HX_p.out.alloc _).cell 1
  have fc12 : (w1.alloc (.cells #[.int .i64 v, .int .i64 c, .int .i64 r] 54)).cell? ⟨w.heap.size, 2, none⟩ = some (.int .i64 r) := (HX_p.out.alloc _).cell 2
  go_wp2
  clear fc10 fc11 fc12
  obtain ⟨w13, hW13⟩ : ∃ W, Hid (w1.alloc (.cells #[.int .i64 v, .int .i64 c, .int .i64 r] 54) = W) := ⟨_, Lib.hid rfl⟩
  try rw [hW13.out]
  have z13 : w1.heap.size < w13.heap.size := by rw [← hW13.out, World.size_alloc]; omega
  have ha13 : Below w1.heap.size w1 w13 := by rw [← hW13.out]; exact (Below.refl _ _).alloc (Nat.le_refl _) _
  replace HX_p := Lib.hid (HX_p.out.below ha13 HX_p.out.lt)
  have HX_g : Hid (Bx w13 w1.heap.size #[.int .i64 v, .int .i64 c, .int .i64 r] 54) := Lib.hid (by rw [← hW13.out]; exact Bx.new _ _ _)
  replace HB := Lib.hid (HB.out.trans (ha13.mono (by omega)))
  clear ha13 hW13
  go_ret
  exact ⟨ret_bool HF2.out, HB.out⟩

theorem pf_nums {k x c r : Int} (h : goodB k x c r = true) : (0 ≤ c ∧ c ≤ 112) ∧ (0 ≤ r ∧ r ≤ 112) := by
  simp only [goodB, Bool.and_eq_true] at h
  exact ⟨(numB_iff _).1 h.2.2.1, (numB_iff _).1 h.2.2.2.1⟩
end Go.Proofs.Ytdhakbpimbadgaa
