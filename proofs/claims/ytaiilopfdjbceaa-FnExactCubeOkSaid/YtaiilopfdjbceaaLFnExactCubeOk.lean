/- FnExactCubeOk answers true at every input: at each argument the function and its model answer alike, no argument is written, and the answer owns its memory. No condition. -/
import Derived.Test.YtaiilopfdjbceaaRows
import Derived.Test.YtaiilopfdjbceaaLaw
import Derived.Test.YtaiilopfdjbceaaDoor
import Derived.Test.YtaiilopfdjbceaaWalk17c
import Derived.Test.YtaiilopfdjbceaaFaceI
namespace Go.Proofs.Ytaiilopfdjbceaa.fnExactCubeOk
open Go.ChangeShapes Go.WideShapes Go.ChangeAt Go.RowKit
theorem own : ownKnob Try.prog.godebug = none := by kernel_rfl
set_option maxRecDepth 100000 in
set_option maxHeartbeats 4000000 in
theorem walk (A_aCube : Option Addr) (n_aCube c_aCube : Nat) (d_aCube : List Int) (w : World) (hm_aCube : n_aCube ≤ 9223372036854775807) (h_aCube : Rd w w.heap.size 1 A_aCube n_aCube (cI d_aCube)) :
    Calls Try.prog 3 #[.slice A_aCube n_aCube c_aCube] w fun e w' => e = .returned (.bool true) ∧ Below w.heap.size w w' := by
  by_cases hs_aCube : szIntS d_aCube ≤ 1048576
  · have hn_aCube : n_aCube ≤ 1048576 := by have := h_aCube.len; unfold szIntS at hs_aCube; omega
    have Ha_aCube : Hid (RdIntS w w.heap.size (.slice A_aCube n_aCube c_aCube) d_aCube) := Lib.hid (⟨A_aCube, n_aCube, c_aCube, rfl, hm_aCube, h_aCube⟩)
    clear h_aCube
    go_enter Try.func3, Try.ntmps3
    go_wp2_with fail
    refine (L_toIntS _ _ _ _ Ha_aCube.out (Nat.le_refl _) hs_aCube).mono ?_
    rintro e w2 ⟨v1, rfl, hx6, hy7⟩
    have z5 : w.heap.size ≤ w2.heap.size := hy7.size
    have HO3 := Lib.hid hx6
    have HS4 := Lib.hid hy7
    clear hx6 hy7
    have HB8 : Hid (Below w.heap.size w w2) := Lib.hid (HS4.out.mono (by omega))
    clear HS4
    go_wp2_with fail
    refine (X_s_CubeOk _ d_aCube _ (HO3.out.rd.more (by omega)) hs_aCube).mono ?_
    rintro e w9 ⟨rfl, hy10⟩
    have z11 : w2.heap.size ≤ w9.heap.size := hy10.size
    have HS12 := Lib.hid hy10
    clear hy10
    have HO13 := Lib.hid (HO3.out.below HS12.out (by omega))
    clear HO3
    have HB14 : Hid (Below w.heap.size w w9) := Lib.hid (HB8.out.trans (HS12.out.mono (by omega)))
    clear HB8
    clear HS12
    clear HO13
    go_wp2_with fail
    refine (L_toIntS _ _ _ _ (RdIntS.below Ha_aCube.out HB14.out) HB14.out.size hs_aCube).mono ?_
    rintro e w16 ⟨v15, rfl, hx20, hy21⟩
    have z19 : w9.heap.size ≤ w16.heap.size := hy21.size
    have HO17 := Lib.hid hx20
    have HS18 := Lib.hid hy21
    clear hx20 hy21
    have HB22 : Hid (Below w.heap.size w w16) := Lib.hid (HB14.out.trans (HS18.out.mono (by omega)))
    clear HB14
    clear HS18
    go_wp2_with fail
    refine (X_i_CubeOk _ d_aCube _ (HO17.out.rd.more (by omega)) hs_aCube).mono ?_
    rintro e w23 ⟨rfl, hy24⟩
    have z25 : w16.heap.size ≤ w23.heap.size := hy24.size
    have HS26 := Lib.hid hy24
    clear hy24
    have HO27 := Lib.hid (HO17.out.below HS26.out (by omega))
    clear HO17
    have HB28 : Hid (Below w.heap.size w w23) := Lib.hid (HB22.out.trans (HS26.out.mono (by omega)))
    clear HB22
    clear HS26
    go_wp2_with fail
    refine (L_toIntS _ _ _ _ (RdIntS.below Ha_aCube.out HB28.out) HB28.out.size hs_aCube).mono ?_
    rintro e w30 ⟨v29, rfl, hx34, hy35⟩
    have z33 : w23.heap.size ≤ w30.heap.size := hy35.size
    have HO31 := Lib.hid hx34
    have HS32 := Lib.hid hy35
    clear hx34 hy35
    have HO36 := Lib.hid (HO27.out.below HS32.out (by omega))
    clear HO27
    have HB37 : Hid (Below w.heap.size w w30) := Lib.hid (HB28.out.trans (HS32.out.mono (by omega)))
    clear HB28
    clear HS32
    go_wp2_with fail
    refine (L_eqIntS _ _ _ _ _ _ HO36.out.rd HO31.out.rd (by omega) (by omega) HO36.out.small).mono ?_
    rintro e w38 ⟨rfl, hx39⟩
    have z40 : w30.heap.size ≤ w38.heap.size := hx39.size
    have HS41 := Lib.hid hx39
    clear hx39
    have HO42 := Lib.hid (HO36.out.below HS41.out (by omega))
    clear HO36
    have HO43 := Lib.hid (HO31.out.below HS41.out (by omega))
    clear HO31
    have HB44 : Hid (Below w.heap.size w w38) := Lib.hid (HB37.out.trans (HS41.out.mono (by omega)))
    clear HB37
    clear HS41
    clear HO43
    go_wp2
    go_ret
    exact ⟨rfl, HB44.out⟩
  · have hn_aCube : ¬ n_aCube ≤ 1048576 := by have := h_aCube.len; unfold szIntS at hs_aCube; omega
    go_enter Try.func3, Try.ntmps3
    go_wp2
    go_ret
    exact ⟨rfl, by first | exact Below.refl _ _ | exact (Below.refl _ _).alloc (Nat.le_refl _) _ | exact ((Below.refl _ _).alloc (Nat.le_refl _) _).alloc (by simp) _⟩

set_option maxRecDepth 100000 in
theorem lifted (os : Os) (started : os.Started) (H : Type) (enc : TypeId × Value → H) :
    ReturnsInHanded {} Try.checked os 3 .any (Rows.fnExactCubeOkSpec.pre6 enc Try.prog Try.f3 Rows.fnExactCubeOkRow.domain false) (Rows.fnExactCubeOkSpec.post enc Try.prog Try.f3 false true false false) := by
  refine returnsInHanded_of_change (C := Try.checked) own started (by kernel_rfl) Try.func3
    (ChangeSpec.witness6 (enc := enc) (C := Try.checked) false ⟨#[], #[.slice none 0 0], []⟩ 8 (by kernel_rfl) (by kernel_rfl) (by kernel_rfl) (by kernel_rfl)) ?_
  intro W base args ds gs before hval0 hW hcnd _
  have hval : ∀ (j : Nat) t v, Try.f3.params[j]? = some t → args[j]? = some v → Value.okWide Try.prog W .any base t v := hval0
  have hW' := hW
  obtain ⟨p, q, hA0, hV, rfl, hfz, hnd⟩ := hW
  have hA : DataW.TrodAll enc Try.prog W 0 (fun _ => true) true Try.f3.params.toList args.toList ds p := hA0
  rw [Try.params3] at hA hval
  obtain ⟨v0, vs0, dd0, ds0, p0, q0, hargs, rfl, rfl, h0, r0⟩ := trodAll_cons hA
  obtain ⟨rfl, rfl, rfl⟩ := trodAll_nil r0
  obtain rfl : args = #[v0] := by cases args; simp_all
  obtain ⟨rfl, rfl⟩ := trodVars_none hV
  obtain ⟨A_aCube, n_aCube, c_aCube, d_aCube, rfl, hm_aCube, h_aCube⟩ := open_intS Try.underlying22 Try.underlying3 (by kernel_rfl) (hval 0 22 v0 rfl rfl) h0
  refine (walk A_aCube n_aCube c_aCube d_aCube W hm_aCube h_aCube).mono fun e W' ⟨he, hb⟩ => ?_
  subst he
  exact ⟨_, rfl, post_law rfl rfl Try.underlying4 (by kernel_rfl) (by kernel_rfl) hW' rfl hb⟩

theorem closed : joinedFacts Try.prog 3 Try.f3 Rows.fnExactCubeOkSpec Rows.fnExactCubeOkRow = true := joined_of (by kernel_rfl)
theorem over : Rows.fnExactCubeOkRow.holds Try.pinned (OpenSpec.ofChange Rows.fnExactCubeOkSpec) :=
  OpenClaim.holds_of_wide 3 Try.f3 rfl rfl rfl rfl rfl rfl rfl ⟨rfl, rfl, rfl, rfl, rfl⟩ rfl rfl rfl rfl rfl (by kernel_rfl) Try.func3 closed
    (of_decide_eq_true (by kernel_rfl)) (by unfold Func.isWrapper; first | (rw [if_pos (by decide +kernel)]; kernel_rfl) | (rw [if_neg (by decide +kernel)]; exact ⟨rfl, rfl⟩))
    (fun os started H enc _ => lifted os started H enc)
/-- the statement -/
theorem proved : Rows.FnExactCubeOkSaid :=
  over
end Go.Proofs.Ytaiilopfdjbceaa.fnExactCubeOk
