/- FnExactCubeAt answers true at every input: at each argument the function and its model answer alike, no argument is written, and the answer owns its memory. No condition. -/
import Derived.Test.YtaiilopfdjbceaaRows
import Derived.Test.YtaiilopfdjbceaaLaw
import Derived.Test.YtaiilopfdjbceaaDoor
import Derived.Test.YtaiilopfdjbceaaWalk17c
import Derived.Test.YtaiilopfdjbceaaFaceI
namespace Go.Proofs.Ytaiilopfdjbceaa.fnExactCubeAt
open Go.ChangeShapes Go.WideShapes Go.ChangeAt Go.RowKit
theorem own : ownKnob Try.prog.godebug = none := by kernel_rfl
set_option maxRecDepth 100000 in
set_option maxHeartbeats 4000000 in
theorem walk (A_aCube : Option Addr) (n_aCube c_aCube : Nat) (d_aCube : List Int) (A_aAt : Option Addr) (n_aAt c_aAt : Nat) (d_aAt : List Int) (w : World) (hm_aCube : n_aCube ≤ 9223372036854775807) (h_aCube : Rd w w.heap.size 1 A_aCube n_aCube (cI d_aCube)) (hm_aAt : n_aAt ≤ 9223372036854775807) (h_aAt : Rd w w.heap.size 1 A_aAt n_aAt (cI d_aAt)) :
    Calls Try.prog 5 #[.slice A_aCube n_aCube c_aCube, .slice A_aAt n_aAt c_aAt] w fun e w' => e = .returned (.bool true) ∧ Below w.heap.size w w' := by
  by_cases hs_aCube : szIntS d_aCube ≤ 1048576
  · have hn_aCube : n_aCube ≤ 1048576 := by have := h_aCube.len; unfold szIntS at hs_aCube; omega
    by_cases hs_aAt : szIntS d_aAt ≤ 1048576
    · have hn_aAt : n_aAt ≤ 1048576 := by have := h_aAt.len; unfold szIntS at hs_aAt; omega
      have Ha_aCube : Hid (RdIntS w w.heap.size (.slice A_aCube n_aCube c_aCube) d_aCube) := Lib.hid (⟨A_aCube, n_aCube, c_aCube, rfl, hm_aCube, h_aCube⟩)
      have Ha_aAt : Hid (RdIntS w w.heap.size (.slice A_aAt n_aAt c_aAt) d_aAt) := Lib.hid (⟨A_aAt, n_aAt, c_aAt, rfl, hm_aAt, h_aAt⟩)
      clear h_aCube h_aAt
      go_enter Try.func5, Try.ntmps5
      go_wp2_with fail
      refine (L_toIntS _ _ _ _ Ha_aCube.out (Nat.le_refl _) hs_aCube).mono ?_
      rintro e w2 ⟨v1, rfl, hx6, hy7⟩
      have z5 : w.heap.size ≤ w2.heap.size := hy7.size
      have HO3 := Lib.hid hx6
      have HS4 := Lib.hid hy7
      clear hx6 hy7
      have HB8 : Hid (Below w.heap.size w w2) := Lib.hid (HS4.out.mono (by omega))
      clear HS4
      go_wp2_with fail
      refine (L_toIntS _ _ _ _ (RdIntS.below Ha_aAt.out HB8.out) HB8.out.size hs_aAt).mono ?_
      rintro e w10 ⟨v9, rfl, hx14, hy15⟩
      have z13 : w2.heap.size ≤ w10.heap.size := hy15.size
      have HO11 := Lib.hid hx14
      have HS12 := Lib.hid hy15
      clear hx14 hy15
      have HO16 := Lib.hid (HO3.out.below HS12.out (by omega))
      clear HO3
      have HB17 : Hid (Below w.heap.size w w10) := Lib.hid (HB8.out.trans (HS12.out.mono (by omega)))
      clear HB8
      clear HS12
      go_wp2_with fail
      refine (X_s_CubeAt _ _ d_aCube d_aAt _ (HO16.out.rd.more (by omega)) (HO11.out.rd.more (by omega)) hs_aCube hs_aAt).mono ?_
      rintro e w18 ⟨rfl, hy19⟩
      have z20 : w10.heap.size ≤ w18.heap.size := hy19.size
      have HS21 := Lib.hid hy19
      clear hy19
      have HO22 := Lib.hid (HO16.out.below HS21.out (by omega))
      clear HO16
      have HO23 := Lib.hid (HO11.out.below HS21.out (by omega))
      clear HO11
      have HB24 : Hid (Below w.heap.size w w18) := Lib.hid (HB17.out.trans (HS21.out.mono (by omega)))
      clear HB17
      clear HS21
      clear HO22
      clear HO23
      go_wp2_with fail
      refine (L_toIntS _ _ _ _ (RdIntS.below Ha_aCube.out HB24.out) HB24.out.size hs_aCube).mono ?_
      rintro e w26 ⟨v25, rfl, hx30, hy31⟩
      have z29 : w18.heap.size ≤ w26.heap.size := hy31.size
      have HO27 := Lib.hid hx30
      have HS28 := Lib.hid hy31
      clear hx30 hy31
      have HB32 : Hid (Below w.heap.size w w26) := Lib.hid (HB24.out.trans (HS28.out.mono (by omega)))
      clear HB24
      clear HS28
      go_wp2_with fail
      refine (L_toIntS _ _ _ _ (RdIntS.below Ha_aAt.out HB32.out) HB32.out.size hs_aAt).mono ?_
      rintro e w34 ⟨v33, rfl, hx38, hy39⟩
      have z37 : w26.heap.size ≤ w34.heap.size := hy39.size
      have HO35 := Lib.hid hx38
      have HS36 := Lib.hid hy39
      clear hx38 hy39
      have HO40 := Lib.hid (HO27.out.below HS36.out (by omega))
      clear HO27
      have HB41 : Hid (Below w.heap.size w w34) := Lib.hid (HB32.out.trans (HS36.out.mono (by omega)))
      clear HB32
      clear HS36
      go_wp2_with fail
      refine (X_i_CubeAt _ _ d_aCube d_aAt _ (HO40.out.rd.more (by omega)) (HO35.out.rd.more (by omega)) hs_aCube hs_aAt).mono ?_
      rintro e w42 ⟨rfl, hy43⟩
      have z44 : w34.heap.size ≤ w42.heap.size := hy43.size
      have HS45 := Lib.hid hy43
      clear hy43
      have HO46 := Lib.hid (HO40.out.below HS45.out (by omega))
      clear HO40
      have HO47 := Lib.hid (HO35.out.below HS45.out (by omega))
      clear HO35
      have HB48 : Hid (Below w.heap.size w w42) := Lib.hid (HB41.out.trans (HS45.out.mono (by omega)))
      clear HB41
      clear HS45
      go_wp2_with fail
      refine (L_toIntS _ _ _ _ (RdIntS.below Ha_aCube.out HB48.out) HB48.out.size hs_aCube).mono ?_
      rintro e w50 ⟨v49, rfl, hx54, hy55⟩
      have z53 : w42.heap.size ≤ w50.heap.size := hy55.size
      have HO51 := Lib.hid hx54
      have HS52 := Lib.hid hy55
      clear hx54 hy55
      have HO56 := Lib.hid (HO46.out.below HS52.out (by omega))
      clear HO46
      have HO57 := Lib.hid (HO47.out.below HS52.out (by omega))
      clear HO47
      have HB58 : Hid (Below w.heap.size w w50) := Lib.hid (HB48.out.trans (HS52.out.mono (by omega)))
      clear HB48
      clear HS52
      go_wp2_with fail
      refine (L_eqIntS _ _ _ _ _ _ HO56.out.rd HO51.out.rd (by omega) (by omega) HO56.out.small).mono ?_
      rintro e w59 ⟨rfl, hx60⟩
      have z61 : w50.heap.size ≤ w59.heap.size := hx60.size
      have HS62 := Lib.hid hx60
      clear hx60
      have HO63 := Lib.hid (HO56.out.below HS62.out (by omega))
      clear HO56
      have HO64 := Lib.hid (HO57.out.below HS62.out (by omega))
      clear HO57
      have HO65 := Lib.hid (HO51.out.below HS62.out (by omega))
      clear HO51
      have HB66 : Hid (Below w.heap.size w w59) := Lib.hid (HB58.out.trans (HS62.out.mono (by omega)))
      clear HB58
      clear HS62
      clear HO65
      go_wp2_with fail
      refine (L_toIntS _ _ _ _ (RdIntS.below Ha_aAt.out HB66.out) HB66.out.size hs_aAt).mono ?_
      rintro e w68 ⟨v67, rfl, hx72, hy73⟩
      have z71 : w59.heap.size ≤ w68.heap.size := hy73.size
      have HO69 := Lib.hid hx72
      have HS70 := Lib.hid hy73
      clear hx72 hy73
      have HO74 := Lib.hid (HO63.out.below HS70.out (by omega))
      clear HO63
      have HO75 := Lib.hid (HO64.out.below HS70.out (by omega))
      clear HO64
      have HB76 : Hid (Below w.heap.size w w68) := Lib.hid (HB66.out.trans (HS70.out.mono (by omega)))
      clear HB66
      clear HS70
      go_wp2_with fail
      refine (L_eqIntS _ _ _ _ _ _ HO75.out.rd HO69.out.rd (by omega) (by omega) HO75.out.small).mono ?_
      rintro e w77 ⟨rfl, hx78⟩
      have z79 : w68.heap.size ≤ w77.heap.size := hx78.size
      have HS80 := Lib.hid hx78
      clear hx78
      have HO81 := Lib.hid (HO74.out.below HS80.out (by omega))
      clear HO74
      have HO82 := Lib.hid (HO75.out.below HS80.out (by omega))
      clear HO75
      have HO83 := Lib.hid (HO69.out.below HS80.out (by omega))
      clear HO69
      have HB84 : Hid (Below w.heap.size w w77) := Lib.hid (HB76.out.trans (HS80.out.mono (by omega)))
      clear HB76
      clear HS80
      clear HO83
      go_wp2
      go_ret
      exact ⟨rfl, HB84.out⟩
    · have hn_aAt : ¬ n_aAt ≤ 1048576 := by have := h_aAt.len; unfold szIntS at hs_aAt; omega
      go_enter Try.func5, Try.ntmps5
      go_wp2
      go_ret
      exact ⟨rfl, by first | exact Below.refl _ _ | exact (Below.refl _ _).alloc (Nat.le_refl _) _ | exact ((Below.refl _ _).alloc (Nat.le_refl _) _).alloc (by simp) _⟩
  · have hn_aCube : ¬ n_aCube ≤ 1048576 := by have := h_aCube.len; unfold szIntS at hs_aCube; omega
    go_enter Try.func5, Try.ntmps5
    go_wp2
    go_ret
    exact ⟨rfl, by first | exact Below.refl _ _ | exact (Below.refl _ _).alloc (Nat.le_refl _) _ | exact ((Below.refl _ _).alloc (Nat.le_refl _) _).alloc (by simp) _⟩

set_option maxRecDepth 100000 in
theorem lifted (os : Os) (started : os.Started) (H : Type) (enc : TypeId × Value → H) :
    ReturnsInHanded {} Try.checked os 5 .any (Rows.fnExactCubeAtSpec.pre6 enc Try.prog Try.f5 Rows.fnExactCubeAtRow.domain false) (Rows.fnExactCubeAtSpec.post enc Try.prog Try.f5 false true false false) := by
  refine returnsInHanded_of_change (C := Try.checked) own started (by kernel_rfl) Try.func5
    (ChangeSpec.witness6 (enc := enc) (C := Try.checked) false ⟨#[], #[.slice none 0 0, .slice none 0 0], []⟩ 8 (by kernel_rfl) (by kernel_rfl) (by kernel_rfl) (by kernel_rfl)) ?_
  intro W base args ds gs before hval0 hW hcnd _
  have hval : ∀ (j : Nat) t v, Try.f5.params[j]? = some t → args[j]? = some v → Value.okWide Try.prog W .any base t v := hval0
  have hW' := hW
  obtain ⟨p, q, hA0, hV, rfl, hfz, hnd⟩ := hW
  have hA : DataW.TrodAll enc Try.prog W 0 (fun _ => true) true Try.f5.params.toList args.toList ds p := hA0
  rw [Try.params5] at hA hval
  obtain ⟨v0, vs0, dd0, ds0, p0, q0, hargs, rfl, rfl, h0, r0⟩ := trodAll_cons hA
  obtain ⟨v1, vs1, dd1, ds1, p1, q1, rfl, rfl, rfl, h1, r1⟩ := trodAll_cons r0
  obtain ⟨rfl, rfl, rfl⟩ := trodAll_nil r1
  obtain rfl : args = #[v0, v1] := by cases args; simp_all
  obtain ⟨rfl, rfl⟩ := trodVars_none hV
  obtain ⟨A_aCube, n_aCube, c_aCube, d_aCube, rfl, hm_aCube, h_aCube⟩ := open_intS Try.underlying22 Try.underlying3 (by kernel_rfl) (hval 0 22 v0 rfl rfl) h0
  obtain ⟨A_aAt, n_aAt, c_aAt, d_aAt, rfl, hm_aAt, h_aAt⟩ := open_intS Try.underlying22 Try.underlying3 (by kernel_rfl) (hval 1 22 v1 rfl rfl) h1
  refine (walk A_aCube n_aCube c_aCube d_aCube A_aAt n_aAt c_aAt d_aAt W hm_aCube h_aCube hm_aAt h_aAt).mono fun e W' ⟨he, hb⟩ => ?_
  subst he
  exact ⟨_, rfl, post_law rfl rfl Try.underlying4 (by kernel_rfl) (by kernel_rfl) hW' rfl hb⟩

theorem closed : joinedFacts Try.prog 5 Try.f5 Rows.fnExactCubeAtSpec Rows.fnExactCubeAtRow = true := joined_of (by kernel_rfl)
theorem over : Rows.fnExactCubeAtRow.holds Try.pinned (OpenSpec.ofChange Rows.fnExactCubeAtSpec) :=
  OpenClaim.holds_of_wide 5 Try.f5 rfl rfl rfl rfl rfl rfl rfl ⟨rfl, rfl, rfl, rfl, rfl⟩ rfl rfl rfl rfl rfl (by kernel_rfl) Try.func5 closed
    (of_decide_eq_true (by kernel_rfl)) (by unfold Func.isWrapper; first | (rw [if_pos (by decide +kernel)]; kernel_rfl) | (rw [if_neg (by decide +kernel)]; exact ⟨rfl, rfl⟩))
    (fun os started H enc _ => lifted os started H enc)
/-- the statement -/
theorem proved : Rows.FnExactCubeAtSaid :=
  over
end Go.Proofs.Ytaiilopfdjbceaa.fnExactCubeAt
