/- FnExactChoicePlace answers true at every input: at each argument the function and its model answer alike, no argument is written, and the answer owns its memory. No condition. -/
import Derived.Test.YthfkjaofgpgoeaaRows
import Derived.Test.YthfkjaofgpgoeaaLaw
import Derived.Test.YthfkjaofgpgoeaaDoor
import Derived.Test.YthfkjaofgpgoeaaWalk11a
import Derived.Test.YthfkjaofgpgoeaaOpenC
namespace Go.Proofs.Ythfkjaofgpgoeaa.fnExactChoicePlace
open Go.ChangeShapes Go.WideShapes Go.ChangeAt Go.RowKit
theorem own : ownKnob Try.prog.godebug = none := by kernel_rfl
set_option maxRecDepth 100000 in
set_option maxHeartbeats 4000000 in
theorem walk (aN : Int) (aChoice : Int) (aAsked : Int) (w : World) (_w_aN : (Lit.int .i64 aN).wf = true) (_w_aChoice : (Lit.int .i64 aChoice).wf = true) (_w_aAsked : (Lit.int .i64 aAsked).wf = true) :
    Calls Try.prog 15 #[.int .i64 aN, .int .i64 aChoice, .int .i64 aAsked] w fun e w' => e = .returned (.bool true) ∧ Below w.heap.size w w' := by
  go_enter Try.func15, Try.ntmps15
  go_wp2_with fail
  refine (X_s_ChoicePlace  aN aChoice aAsked _  ).mono ?_
  rintro e w1 ⟨rfl, hy2⟩
  have z3 : w.heap.size ≤ w1.heap.size := hy2.size
  have HS4 := Lib.hid hy2
  clear hy2
  have HB5 : Hid (Below w.heap.size w w1) := Lib.hid (HS4.out.mono (by omega))
  clear HS4
  go_wp2_with fail
  refine (X_i_ChoicePlace  aN aChoice aAsked _  ).mono ?_
  rintro e w6 ⟨rfl, hy7⟩
  have z8 : w1.heap.size ≤ w6.heap.size := hy7.size
  have HS9 := Lib.hid hy7
  clear hy7
  have HB10 : Hid (Below w.heap.size w w6) := Lib.hid (HB5.out.trans (HS9.out.mono (by omega)))
  clear HB5
  clear HS9
  go_wp2
  go_ret
  exact ⟨rfl, HB10.out⟩

set_option maxRecDepth 100000 in
theorem lifted (os : Os) (started : os.Started) (H : Type) (enc : TypeId × Value → H) :
    ReturnsInHanded {} Try.checked os 15 .any (Rows.fnExactChoicePlaceSpec.pre6 enc Try.prog Try.f15 Rows.fnExactChoicePlaceRow.domain false) (Rows.fnExactChoicePlaceSpec.post enc Try.prog Try.f15 false true false false) := by
  refine returnsInHanded_of_change (C := Try.checked) own started (by kernel_rfl) Try.func15
    (ChangeSpec.witness6 (enc := enc) (C := Try.checked) false ⟨#[], #[.int .i64 0, .int .i64 0, .int .i64 0], []⟩ 8 (by kernel_rfl) (by kernel_rfl) (by kernel_rfl) (by kernel_rfl)) ?_
  intro W base args ds gs before hval0 hW hcnd _
  have hval : ∀ (j : Nat) t v, Try.f15.params[j]? = some t → args[j]? = some v → Value.okWide Try.prog W .any base t v := hval0
  have hW' := hW
  obtain ⟨p, q, hA0, hV, rfl, hfz, hnd⟩ := hW
  have hA : DataW.TrodAll enc Try.prog W 0 (fun _ => true) true Try.f15.params.toList args.toList ds p := hA0
  rw [Try.params15] at hA hval
  obtain ⟨v0, vs0, dd0, ds0, p0, q0, hargs, rfl, rfl, h0, r0⟩ := trodAll_cons hA
  obtain ⟨v1, vs1, dd1, ds1, p1, q1, rfl, rfl, rfl, h1, r1⟩ := trodAll_cons r0
  obtain ⟨v2, vs2, dd2, ds2, p2, q2, rfl, rfl, rfl, h2, r2⟩ := trodAll_cons r1
  obtain ⟨rfl, rfl, rfl⟩ := trodAll_nil r2
  obtain rfl : args = #[v0, v1, v2] := by cases args; simp_all
  obtain ⟨rfl, rfl⟩ := trodVars_none hV
  obtain ⟨aN, rfl, rfl, rfl, w_aN⟩ := open_int Try.underlying3 (hval 0 3 v0 rfl rfl) h0
  obtain ⟨aChoice, rfl, rfl, rfl, w_aChoice⟩ := open_int Try.underlying3 (hval 1 3 v1 rfl rfl) h1
  obtain ⟨aAsked, rfl, rfl, rfl, w_aAsked⟩ := open_int Try.underlying3 (hval 2 3 v2 rfl rfl) h2
  refine (walk aN aChoice aAsked W w_aN w_aChoice w_aAsked).mono fun e W' ⟨he, hb⟩ => ?_
  subst he
  exact ⟨_, rfl, post_law rfl rfl Try.underlying4 (by kernel_rfl) (by kernel_rfl) hW' rfl hb⟩

theorem closed : joinedFacts Try.prog 15 Try.f15 Rows.fnExactChoicePlaceSpec Rows.fnExactChoicePlaceRow = true := joined_of (by kernel_rfl)
theorem over : Rows.fnExactChoicePlaceRow.holds Try.pinned (OpenSpec.ofChange Rows.fnExactChoicePlaceSpec) :=
  OpenClaim.holds_of_wide 15 Try.f15 rfl rfl rfl rfl rfl rfl rfl ⟨rfl, rfl, rfl, rfl, rfl⟩ rfl rfl rfl rfl rfl (by kernel_rfl) Try.func15 closed
    (of_decide_eq_true (by kernel_rfl)) (by unfold Func.isWrapper; first | (rw [if_pos (by decide +kernel)]; kernel_rfl) | (rw [if_neg (by decide +kernel)]; exact ⟨rfl, rfl⟩))
    (fun os started H enc _ => lifted os started H enc)
/-- the statement -/
theorem proved : Rows.FnExactChoicePlaceSaid :=
  over
end Go.Proofs.Ythfkjaofgpgoeaa.fnExactChoicePlace
