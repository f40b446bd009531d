/- FnExactPairTake answers true at every input: at each argument the function and its model answer alike, no argument is written, and the answer owns its memory. No condition. -/
import Derived.Test.YtbabkaofhhaneaaRows
import Derived.Test.YtbabkaofhhaneaaLaw
import Derived.Test.YtbabkaofhhaneaaDoor
import Derived.Test.YtbabkaofhhaneaaFaceP
import Derived.Test.YtbabkaofhhaneaaMFnExactManyExplain
namespace Go.Proofs.Ytbabkaofhhaneaa.fnExactPairTake
open Go.ChangeShapes Go.WideShapes Go.ChangeAt Go.RowKit
theorem own : ownKnob Try.prog.godebug = none := by kernel_rfl
set_option maxRecDepth 100000 in
set_option maxHeartbeats 4000000 in
theorem walk (A_aSet : Option Addr) (n_aSet c_aSet : Nat) (d_aSet : List Bool) (aA : Int) (aB : Int) (aIndex : Int) (w : World) (hm_aSet : n_aSet ≤ 9223372036854775807) (h_aSet : Rd w w.heap.size 1 A_aSet n_aSet (cB d_aSet)) (_w_aA : (Lit.int .i64 aA).wf = true) (_w_aB : (Lit.int .i64 aB).wf = true) (_w_aIndex : (Lit.int .i64 aIndex).wf = true) :
    Calls Try.prog 6 #[.slice A_aSet n_aSet c_aSet, .int .i64 aA, .int .i64 aB, .int .i64 aIndex] w fun e w' => e = .returned (.bool true) ∧ Below w.heap.size w w' := by
  by_cases hs_aSet : szBoolS d_aSet ≤ 1048576
  · have hn_aSet : n_aSet ≤ 1048576 := by have := h_aSet.blen; unfold szBoolS at hs_aSet; omega
    have Ha_aSet : Hid (RdBoolS w w.heap.size (.slice A_aSet n_aSet c_aSet) d_aSet) := Lib.hid (⟨A_aSet, n_aSet, c_aSet, rfl, hm_aSet, h_aSet⟩)
    clear h_aSet
    go_enter Try.func6, Try.ntmps6
    go_wp2_with fail
    refine (L_toBoolS _ _ _ _ Ha_aSet.out (Nat.le_refl _) hs_aSet).mono ?_
    rintro e w2 ⟨v1, rfl, hx6, hy7⟩
    have z5 : w.heap.size ≤ w2.heap.size := hy7.size
    have HO3 := Lib.hid hx6
    have HS4 := Lib.hid hy7
    clear hx6 hy7
    have HB8 : Hid (Below w.heap.size w w2) := Lib.hid (HS4.out.mono (by omega))
    clear HS4
    go_wp2_with fail
    refine (X_s_PairTake _ d_aSet aA aB aIndex _ (HO3.out.rd.more (by omega)) hs_aSet).mono ?_
    rintro e w9 ⟨rfl, hy10⟩
    have z11 : w2.heap.size ≤ w9.heap.size := hy10.size
    have HS12 := Lib.hid hy10
    clear hy10
    have HO13 := Lib.hid (HO3.out.below HS12.out (by omega))
    clear HO3
    have HB14 : Hid (Below w.heap.size w w9) := Lib.hid (HB8.out.trans (HS12.out.mono (by omega)))
    clear HB8
    clear HS12
    clear HO13
    go_wp2_with fail
    refine (L_toBoolS _ _ _ _ (RdBoolS.below Ha_aSet.out HB14.out) HB14.out.size hs_aSet).mono ?_
    rintro e w16 ⟨v15, rfl, hx20, hy21⟩
    have z19 : w9.heap.size ≤ w16.heap.size := hy21.size
    have HO17 := Lib.hid hx20
    have HS18 := Lib.hid hy21
    clear hx20 hy21
    have HB22 : Hid (Below w.heap.size w w16) := Lib.hid (HB14.out.trans (HS18.out.mono (by omega)))
    clear HB14
    clear HS18
    go_wp2_with fail
    refine (X_i_PairTake _ d_aSet aA aB aIndex _ (HO17.out.rd.more (by omega)) hs_aSet).mono ?_
    rintro e w23 ⟨rfl, hy24⟩
    have z25 : w16.heap.size ≤ w23.heap.size := hy24.size
    have HS26 := Lib.hid hy24
    clear hy24
    have HO27 := Lib.hid (HO17.out.below HS26.out (by omega))
    clear HO17
    have HB28 : Hid (Below w.heap.size w w23) := Lib.hid (HB22.out.trans (HS26.out.mono (by omega)))
    clear HB22
    clear HS26
    go_wp2_with fail
    refine (L_toBoolS _ _ _ _ (RdBoolS.below Ha_aSet.out HB28.out) HB28.out.size hs_aSet).mono ?_
    rintro e w30 ⟨v29, rfl, hx34, hy35⟩
    have z33 : w23.heap.size ≤ w30.heap.size := hy35.size
    have HO31 := Lib.hid hx34
    have HS32 := Lib.hid hy35
    clear hx34 hy35
    have HO36 := Lib.hid (HO27.out.below HS32.out (by omega))
    clear HO27
    have HB37 : Hid (Below w.heap.size w w30) := Lib.hid (HB28.out.trans (HS32.out.mono (by omega)))
    clear HB28
    clear HS32
    go_wp2_with fail
    refine (L_eqBoolS _ _ _ _ _ _ HO36.out.rd HO31.out.rd (by omega) (by omega) HO36.out.small).mono ?_
    rintro e w38 ⟨rfl, hx39⟩
    have z40 : w30.heap.size ≤ w38.heap.size := hx39.size
    have HS41 := Lib.hid hx39
    clear hx39
    have HO42 := Lib.hid (HO36.out.below HS41.out (by omega))
    clear HO36
    have HO43 := Lib.hid (HO31.out.below HS41.out (by omega))
    clear HO31
    have HB44 : Hid (Below w.heap.size w w38) := Lib.hid (HB37.out.trans (HS41.out.mono (by omega)))
    clear HB37
    clear HS41
    clear HO43
    go_wp2
    go_ret
    exact ⟨rfl, HB44.out⟩
  · have hn_aSet : ¬ n_aSet ≤ 1048576 := by have := h_aSet.blen; unfold szBoolS at hs_aSet; omega
    go_enter Try.func6, Try.ntmps6
    go_wp2
    go_ret
    exact ⟨rfl, by first | exact Below.refl _ _ | exact (Below.refl _ _).alloc (Nat.le_refl _) _ | exact ((Below.refl _ _).alloc (Nat.le_refl _) _).alloc (by simp) _⟩

set_option maxRecDepth 100000 in
theorem lifted (os : Os) (started : os.Started) (H : Type) (enc : TypeId × Value → H) :
    ReturnsInHanded {} Try.checked os 6 .any (Rows.fnExactPairTakeSpec.pre6 enc Try.prog Try.f6 Rows.fnExactPairTakeRow.domain false) (Rows.fnExactPairTakeSpec.post enc Try.prog Try.f6 false true false false) := by
  refine returnsInHanded_of_change (C := Try.checked) own started (by kernel_rfl) Try.func6
    (ChangeSpec.witness6 (enc := enc) (C := Try.checked) false ⟨#[], #[.slice none 0 0, .int .i64 0, .int .i64 0, .int .i64 0], []⟩ 8 (by kernel_rfl) (by kernel_rfl) (by kernel_rfl) (by kernel_rfl)) ?_
  intro W base args ds gs before hval0 hW hcnd _
  have hval : ∀ (j : Nat) t v, Try.f6.params[j]? = some t → args[j]? = some v → Value.okWide Try.prog W .any base t v := hval0
  have hW' := hW
  obtain ⟨p, q, hA0, hV, rfl, hfz, hnd⟩ := hW
  have hA : DataW.TrodAll enc Try.prog W 0 (fun _ => true) true Try.f6.params.toList args.toList ds p := hA0
  rw [Try.params6] at hA hval
  obtain ⟨v0, vs0, dd0, ds0, p0, q0, hargs, rfl, rfl, h0, r0⟩ := trodAll_cons hA
  obtain ⟨v1, vs1, dd1, ds1, p1, q1, rfl, rfl, rfl, h1, r1⟩ := trodAll_cons r0
  obtain ⟨v2, vs2, dd2, ds2, p2, q2, rfl, rfl, rfl, h2, r2⟩ := trodAll_cons r1
  obtain ⟨v3, vs3, dd3, ds3, p3, q3, rfl, rfl, rfl, h3, r3⟩ := trodAll_cons r2
  obtain ⟨rfl, rfl, rfl⟩ := trodAll_nil r3
  obtain rfl : args = #[v0, v1, v2, v3] := by cases args; simp_all
  obtain ⟨rfl, rfl⟩ := trodVars_none hV
  obtain ⟨A_aSet, n_aSet, c_aSet, d_aSet, rfl, hm_aSet, h_aSet⟩ := open_boolS Try.underlying26 Try.underlying4 (by kernel_rfl) (hval 0 26 v0 rfl rfl) h0
  obtain ⟨aA, rfl, rfl, rfl, w_aA⟩ := open_int Try.underlying3 (hval 1 3 v1 rfl rfl) h1
  obtain ⟨aB, rfl, rfl, rfl, w_aB⟩ := open_int Try.underlying3 (hval 2 3 v2 rfl rfl) h2
  obtain ⟨aIndex, rfl, rfl, rfl, w_aIndex⟩ := open_int Try.underlying3 (hval 3 3 v3 rfl rfl) h3
  refine (walk A_aSet n_aSet c_aSet d_aSet aA aB aIndex W hm_aSet h_aSet w_aA w_aB w_aIndex).mono fun e W' ⟨he, hb⟩ => ?_
  subst he
  exact ⟨_, rfl, post_law rfl rfl Try.underlying4 (by kernel_rfl) (by kernel_rfl) hW' rfl hb⟩

theorem closed : joinedFacts Try.prog 6 Try.f6 Rows.fnExactPairTakeSpec Rows.fnExactPairTakeRow = true := joined_of (by kernel_rfl)
theorem over : Rows.fnExactPairTakeRow.holds Try.pinned (OpenSpec.ofChange Rows.fnExactPairTakeSpec) :=
  OpenClaim.holds_of_wide 6 Try.f6 rfl rfl rfl rfl rfl rfl rfl ⟨rfl, rfl, rfl, rfl, rfl⟩ rfl rfl rfl rfl rfl (by kernel_rfl) Try.func6 closed
    (of_decide_eq_true (by kernel_rfl)) (by unfold Func.isWrapper; first | (rw [if_pos (by decide +kernel)]; kernel_rfl) | (rw [if_neg (by decide +kernel)]; exact ⟨rfl, rfl⟩))
    (fun os started H enc _ => lifted os started H enc)
/-- the statement -/
theorem proved : Rows.FnExactPairTakeSaid :=
  over
end Go.Proofs.Ytbabkaofhhaneaa.fnExactPairTake
