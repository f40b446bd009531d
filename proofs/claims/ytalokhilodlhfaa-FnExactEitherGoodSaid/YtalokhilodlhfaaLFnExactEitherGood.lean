/- FnExactEitherGood answers true at every input: at each argument the function and its model answer alike, no argument is written, and the answer owns its memory. No condition. -/
import Derived.Test.YtalokhilodlhfaaRows
import Derived.Test.YtalokhilodlhfaaLaw
import Derived.Test.YtalokhilodlhfaaDoor
import Derived.Test.YtalokhilodlhfaaWalk15d
import Derived.Test.YtalokhilodlhfaaOpenP
import Derived.Test.YtalokhilodlhfaaFaceI
namespace Go.Proofs.Ytalokhilodlhfaa.fnExactEitherGood
open Go.ChangeShapes Go.WideShapes Go.ChangeAt Go.RowKit
theorem own : ownKnob Try.prog.godebug = none := by kernel_rfl
set_option maxRecDepth 100000 in
set_option maxHeartbeats 4000000 in
theorem walk (A_aKeys : Option Addr) (n_aKeys c_aKeys : Nat) (d_aKeys : List Int) (aChal : Int) (A_aList : Option Addr) (n_aList c_aList : Nat) (d_aList : List (Int × Int × Int)) (w : World) (hm_aKeys : n_aKeys ≤ 9223372036854775807) (h_aKeys : Rd w w.heap.size 1 A_aKeys n_aKeys (cI d_aKeys)) (_w_aChal : (Lit.int .i64 aChal).wf = true) (hm_aList : n_aList ≤ 9223372036854775807) (h_aList : Rd w w.heap.size 3 A_aList n_aList (cProof d_aList)) :
    Calls Try.prog 4 #[.slice A_aKeys n_aKeys c_aKeys, .int .i64 aChal, .slice A_aList n_aList c_aList] w fun e w' => e = .returned (.bool true) ∧ Below w.heap.size w w' := by
  by_cases hs_aKeys : szIntS d_aKeys ≤ 1048576
  · have hn_aKeys : n_aKeys ≤ 1048576 := by have := h_aKeys.len; unfold szIntS at hs_aKeys; omega
    have Ha_aKeys : Hid (RdIntS w w.heap.size (.slice A_aKeys n_aKeys c_aKeys) d_aKeys) := Lib.hid (⟨A_aKeys, n_aKeys, c_aKeys, rfl, hm_aKeys, h_aKeys⟩)
    have Ha_aList : Hid (RdProofS w w.heap.size (.slice A_aList n_aList c_aList) d_aList) := Lib.hid (⟨A_aList, n_aList, c_aList, rfl, hm_aList, h_aList⟩)
    clear h_aKeys h_aList
    go_enter Try.func4, Try.ntmps4
    go_wp2_with fail
    rcases Int.lt_or_le 1048576 (szProofS d_aList : Nat) with hl1 | hl1
    · refine (L_szProofS_no _ _ _ _ _ Ha_aList.out (by omega) (by omega) hl1).mono ?_
      rintro e w' ⟨rfl, hb⟩
      have hb2 := Lib.hid hb
      clear hb
      go_wp2
      go_ret
      exact ⟨rfl, hb2.out⟩
    refine (L_szProofS_ok _ _ _ _ _ Ha_aList.out (by omega) (by omega) hl1).mono ?_
    rintro e w2 ⟨L3, rfl, hx6, h0_4, h1_5, hy7⟩
    have hs_aList : szProofS d_aList ≤ 1048576 := by omega
    have z8 : w.heap.size ≤ w2.heap.size := hy7.size
    have HS9 := Lib.hid hy7
    clear hy7
    have HB10 : Hid (Below w.heap.size w w2) := Lib.hid (HS9.out.mono (by omega))
    clear HS9
    go_wp2_with fail
    refine (L_toIntS _ _ _ _ (RdIntS.below Ha_aKeys.out HB10.out) HB10.out.size hs_aKeys).mono ?_
    rintro e w12 ⟨v11, rfl, hx16, hy17⟩
    have z15 : w2.heap.size ≤ w12.heap.size := hy17.size
    have HO13 := Lib.hid hx16
    have HS14 := Lib.hid hy17
    clear hx16 hy17
    have HB18 : Hid (Below w.heap.size w w12) := Lib.hid (HB10.out.trans (HS14.out.mono (by omega)))
    clear HB10
    clear HS14
    go_wp2_with fail
    refine (L_toProofS _ _ _ _ (RdProofS.below Ha_aList.out HB18.out) HB18.out.size hs_aList).mono ?_
    rintro e w20 ⟨v19, rfl, hx24, hy25⟩
    have z23 : w12.heap.size ≤ w20.heap.size := hy25.size
    have HO21 := Lib.hid hx24
    have HS22 := Lib.hid hy25
    clear hx24 hy25
    have HO26 := Lib.hid (HO13.out.below HS22.out (by omega))
    clear HO13
    have HB27 : Hid (Below w.heap.size w w20) := Lib.hid (HB18.out.trans (HS22.out.mono (by omega)))
    clear HB18
    clear HS22
    go_wp2_with fail
    refine (X_s_EitherGood _ _ d_aKeys aChal d_aList _ (HO26.out.rd.more (by omega)) (HO21.out.rd.more (by omega)) hs_aKeys hs_aList).mono ?_
    rintro e w28 ⟨rfl, hy29⟩
    have z30 : w20.heap.size ≤ w28.heap.size := hy29.size
    have HS31 := Lib.hid hy29
    clear hy29
    have HO32 := Lib.hid (HO26.out.below HS31.out (by omega))
    clear HO26
    have HO33 := Lib.hid (HO21.out.below HS31.out (by omega))
    clear HO21
    have HB34 : Hid (Below w.heap.size w w28) := Lib.hid (HB27.out.trans (HS31.out.mono (by omega)))
    clear HB27
    clear HS31
    clear HO32
    clear HO33
    go_wp2_with fail
    refine (L_toIntS _ _ _ _ (RdIntS.below Ha_aKeys.out HB34.out) HB34.out.size hs_aKeys).mono ?_
    rintro e w36 ⟨v35, rfl, hx40, hy41⟩
    have z39 : w28.heap.size ≤ w36.heap.size := hy41.size
    have HO37 := Lib.hid hx40
    have HS38 := Lib.hid hy41
    clear hx40 hy41
    have HB42 : Hid (Below w.heap.size w w36) := Lib.hid (HB34.out.trans (HS38.out.mono (by omega)))
    clear HB34
    clear HS38
    go_wp2_with fail
    refine (L_toProofS _ _ _ _ (RdProofS.below Ha_aList.out HB42.out) HB42.out.size hs_aList).mono ?_
    rintro e w44 ⟨v43, rfl, hx48, hy49⟩
    have z47 : w36.heap.size ≤ w44.heap.size := hy49.size
    have HO45 := Lib.hid hx48
    have HS46 := Lib.hid hy49
    clear hx48 hy49
    have HO50 := Lib.hid (HO37.out.below HS46.out (by omega))
    clear HO37
    have HB51 : Hid (Below w.heap.size w w44) := Lib.hid (HB42.out.trans (HS46.out.mono (by omega)))
    clear HB42
    clear HS46
    go_wp2_with fail
    refine (X_i_EitherGood _ _ d_aKeys aChal d_aList _ (HO50.out.rd.more (by omega)) (HO45.out.rd.more (by omega)) hs_aKeys hs_aList).mono ?_
    rintro e w52 ⟨rfl, hy53⟩
    have z54 : w44.heap.size ≤ w52.heap.size := hy53.size
    have HS55 := Lib.hid hy53
    clear hy53
    have HO56 := Lib.hid (HO50.out.below HS55.out (by omega))
    clear HO50
    have HO57 := Lib.hid (HO45.out.below HS55.out (by omega))
    clear HO45
    have HB58 : Hid (Below w.heap.size w w52) := Lib.hid (HB51.out.trans (HS55.out.mono (by omega)))
    clear HB51
    clear HS55
    go_wp2_with fail
    refine (L_toIntS _ _ _ _ (RdIntS.below Ha_aKeys.out HB58.out) HB58.out.size hs_aKeys).mono ?_
    rintro e w60 ⟨v59, rfl, hx64, hy65⟩
    have z63 : w52.heap.size ≤ w60.heap.size := hy65.size
    have HO61 := Lib.hid hx64
    have HS62 := Lib.hid hy65
    clear hx64 hy65
    have HO66 := Lib.hid (HO56.out.below HS62.out (by omega))
    clear HO56
    have HO67 := Lib.hid (HO57.out.below HS62.out (by omega))
    clear HO57
    have HB68 : Hid (Below w.heap.size w w60) := Lib.hid (HB58.out.trans (HS62.out.mono (by omega)))
    clear HB58
    clear HS62
    go_wp2_with fail
    refine (L_eqIntS _ _ _ _ _ _ HO66.out.rd HO61.out.rd (by omega) (by omega) HO66.out.small).mono ?_
    rintro e w69 ⟨rfl, hx70⟩
    have z71 : w60.heap.size ≤ w69.heap.size := hx70.size
    have HS72 := Lib.hid hx70
    clear hx70
    have HO73 := Lib.hid (HO66.out.below HS72.out (by omega))
    clear HO66
    have HO74 := Lib.hid (HO67.out.below HS72.out (by omega))
    clear HO67
    have HO75 := Lib.hid (HO61.out.below HS72.out (by omega))
    clear HO61
    have HB76 : Hid (Below w.heap.size w w69) := Lib.hid (HB68.out.trans (HS72.out.mono (by omega)))
    clear HB68
    clear HS72
    clear HO75
    go_wp2_with fail
    refine (L_toProofS _ _ _ _ (RdProofS.below Ha_aList.out HB76.out) HB76.out.size hs_aList).mono ?_
    rintro e w78 ⟨v77, rfl, hx82, hy83⟩
    have z81 : w69.heap.size ≤ w78.heap.size := hy83.size
    have HO79 := Lib.hid hx82
    have HS80 := Lib.hid hy83
    clear hx82 hy83
    have HO84 := Lib.hid (HO73.out.below HS80.out (by omega))
    clear HO73
    have HO85 := Lib.hid (HO74.out.below HS80.out (by omega))
    clear HO74
    have HB86 : Hid (Below w.heap.size w w78) := Lib.hid (HB76.out.trans (HS80.out.mono (by omega)))
    clear HB76
    clear HS80
    go_wp2_with fail
    refine (L_eqProofS _ _ _ _ _ _ HO85.out.rd HO79.out.rd (by omega) (by omega) HO85.out.small).mono ?_
    rintro e w87 ⟨rfl, hx88⟩
    have z89 : w78.heap.size ≤ w87.heap.size := hx88.size
    have HS90 := Lib.hid hx88
    clear hx88
    have HO91 := Lib.hid (HO84.out.below HS90.out (by omega))
    clear HO84
    have HO92 := Lib.hid (HO85.out.below HS90.out (by omega))
    clear HO85
    have HO93 := Lib.hid (HO79.out.below HS90.out (by omega))
    clear HO79
    have HB94 : Hid (Below w.heap.size w w87) := Lib.hid (HB86.out.trans (HS90.out.mono (by omega)))
    clear HB86
    clear HS90
    clear HO93
    go_wp2
    go_ret
    exact ⟨rfl, HB94.out⟩
  · have hn_aKeys : ¬ n_aKeys ≤ 1048576 := by have := h_aKeys.len; unfold szIntS at hs_aKeys; omega
    go_enter Try.func4, Try.ntmps4
    go_wp2
    go_ret
    exact ⟨rfl, by first | exact Below.refl _ _ | exact (Below.refl _ _).alloc (Nat.le_refl _) _ | exact ((Below.refl _ _).alloc (Nat.le_refl _) _).alloc (by simp) _⟩

set_option maxRecDepth 100000 in
theorem lifted (os : Os) (started : os.Started) (H : Type) (enc : TypeId × Value → H) :
    ReturnsInHanded {} Try.checked os 4 .any (Rows.fnExactEitherGoodSpec.pre6 enc Try.prog Try.f4 Rows.fnExactEitherGoodRow.domain false) (Rows.fnExactEitherGoodSpec.post enc Try.prog Try.f4 false true false false) := by
  refine returnsInHanded_of_change (C := Try.checked) own started (by kernel_rfl) Try.func4
    (ChangeSpec.witness6 (enc := enc) (C := Try.checked) false ⟨#[], #[.slice none 0 0, .int .i64 0, .slice none 0 0], []⟩ 8 (by kernel_rfl) (by kernel_rfl) (by kernel_rfl) (by kernel_rfl)) ?_
  intro W base args ds gs before hval0 hW hcnd _
  have hval : ∀ (j : Nat) t v, Try.f4.params[j]? = some t → args[j]? = some v → Value.okWide Try.prog W .any base t v := hval0
  have hW' := hW
  obtain ⟨p, q, hA0, hV, rfl, hfz, hnd⟩ := hW
  have hA : DataW.TrodAll enc Try.prog W 0 (fun _ => true) true Try.f4.params.toList args.toList ds p := hA0
  rw [Try.params4] at hA hval
  obtain ⟨v0, vs0, dd0, ds0, p0, q0, hargs, rfl, rfl, h0, r0⟩ := trodAll_cons hA
  obtain ⟨v1, vs1, dd1, ds1, p1, q1, rfl, rfl, rfl, h1, r1⟩ := trodAll_cons r0
  obtain ⟨v2, vs2, dd2, ds2, p2, q2, rfl, rfl, rfl, h2, r2⟩ := trodAll_cons r1
  obtain ⟨rfl, rfl, rfl⟩ := trodAll_nil r2
  obtain rfl : args = #[v0, v1, v2] := by cases args; simp_all
  obtain ⟨rfl, rfl⟩ := trodVars_none hV
  obtain ⟨A_aKeys, n_aKeys, c_aKeys, d_aKeys, rfl, hm_aKeys, h_aKeys⟩ := open_intS Try.underlying22 Try.underlying3 (by kernel_rfl) (hval 0 22 v0 rfl rfl) h0
  obtain ⟨aChal, rfl, rfl, rfl, w_aChal⟩ := open_int Try.underlying3 (hval 1 3 v1 rfl rfl) h1
  obtain ⟨A_aList, n_aList, c_aList, d_aList, rfl, hm_aList, h_aList⟩ := open_ProofS Try.underlying32 Try.underlying87 (by kernel_rfl) rfl rfl rfl (by kernel_rfl) (by kernel_rfl) (by kernel_rfl) Try.underlying3 Try.underlying3 Try.underlying3 (hval 2 32 v2 rfl rfl) h2
  refine (walk A_aKeys n_aKeys c_aKeys d_aKeys aChal A_aList n_aList c_aList d_aList W hm_aKeys h_aKeys w_aChal hm_aList h_aList).mono fun e W' ⟨he, hb⟩ => ?_
  subst he
  exact ⟨_, rfl, post_law rfl rfl Try.underlying4 (by kernel_rfl) (by kernel_rfl) hW' rfl hb⟩

theorem closed : joinedFacts Try.prog 4 Try.f4 Rows.fnExactEitherGoodSpec Rows.fnExactEitherGoodRow = true := joined_of (by kernel_rfl)
theorem over : Rows.fnExactEitherGoodRow.holds Try.pinned (OpenSpec.ofChange Rows.fnExactEitherGoodSpec) :=
  OpenClaim.holds_of_wide 4 Try.f4 rfl rfl rfl rfl rfl rfl rfl ⟨rfl, rfl, rfl, rfl, rfl⟩ rfl rfl rfl rfl rfl (by kernel_rfl) Try.func4 closed
    (of_decide_eq_true (by kernel_rfl)) (by unfold Func.isWrapper; first | (rw [if_pos (by decide +kernel)]; kernel_rfl) | (rw [if_neg (by decide +kernel)]; exact ⟨rfl, rfl⟩))
    (fun os started H enc _ => lifted os started H enc)
/-- the statement -/
theorem proved : Rows.FnExactEitherGoodSaid :=
  over
end Go.Proofs.Ytalokhilodlhfaa.fnExactEitherGood
