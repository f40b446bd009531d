/- FnExactTrapdoor answers true at every input: at each argument the function and its model answer alike, no argument is written, and the answer owns its memory. No condition. -/
import Derived.Test.YtjpjmlcmaombnaaRows
import Derived.Test.YtjpjmlcmaombnaaLaw
import Derived.Test.YtjpjmlcmaombnaaDoor
import Derived.Test.YtjpjmlcmaombnaaWalk7c
namespace Go.Proofs.Ytjpjmlcmaombnaa.fnExactTrapdoor
open Go.ChangeShapes Go.WideShapes Go.ChangeAt Go.RowKit
theorem own : ownKnob Try.prog.godebug = none := by kernel_rfl
set_option maxRecDepth 100000 in
set_option maxHeartbeats 4000000 in
theorem walk  (w : World)  :
    Calls Try.prog 8 #[] w fun e w' => e = .returned (.bool true) ∧ Below w.heap.size w w' := by
  go_enter Try.func8, Try.ntmps8
  go_wp2_with fail
  refine (X_s_Trapdoor   _  ).mono ?_
  rintro e w1 ⟨rfl, hy2⟩
  have z3 : w.heap.size ≤ w1.heap.size := hy2.size
  have HS4 := Lib.hid hy2
  clear hy2
  have HB5 : Hid (Below w.heap.size w w1) := Lib.hid (HS4.out.mono (by omega))
  clear HS4
  go_wp2_with fail
  refine (X_i_Trapdoor   _  ).mono ?_
  rintro e w6 ⟨rfl, hy7⟩
  have z8 : w1.heap.size ≤ w6.heap.size := hy7.size
  have HS9 := Lib.hid hy7
  clear hy7
  have HB10 : Hid (Below w.heap.size w w6) := Lib.hid (HB5.out.trans (HS9.out.mono (by omega)))
  clear HB5
  clear HS9
  go_wp2
  go_ret
  exact ⟨rfl, HB10.out⟩

set_option maxRecDepth 100000 in
theorem lifted (os : Os) (started : os.Started) (H : Type) (enc : TypeId × Value → H) :
    ReturnsInHanded {} Try.checked os 8 .any (Rows.fnExactTrapdoorSpec.pre6 enc Try.prog Try.f8 Rows.fnExactTrapdoorRow.domain false) (Rows.fnExactTrapdoorSpec.post enc Try.prog Try.f8 false true false false) := by
  refine returnsInHanded_of_change (C := Try.checked) own started (by kernel_rfl) Try.func8
    (ChangeSpec.witness6 (enc := enc) (C := Try.checked) false ⟨#[], #[], []⟩ 8 (by kernel_rfl) (by kernel_rfl) (by kernel_rfl) (by kernel_rfl)) ?_
  intro W base args ds gs before hval0 hW hcnd _
  have hval : ∀ (j : Nat) t v, Try.f8.params[j]? = some t → args[j]? = some v → Value.okWide Try.prog W .any base t v := hval0
  have hW' := hW
  obtain ⟨p, q, hA0, hV, rfl, hfz, hnd⟩ := hW
  have hA : DataW.TrodAll enc Try.prog W 0 (fun _ => true) true Try.f8.params.toList args.toList ds p := hA0
  rw [Try.params8] at hA hval
  obtain ⟨hargs, rfl, rfl⟩ := trodAll_nil hA
  obtain rfl : args = #[] := by cases args; simp_all
  obtain ⟨rfl, rfl⟩ := trodVars_none hV
  refine (walk  W ).mono fun e W' ⟨he, hb⟩ => ?_
  subst he
  exact ⟨_, rfl, post_law rfl rfl Try.underlying4 (by kernel_rfl) (by kernel_rfl) hW' rfl hb⟩

theorem closed : joinedFacts Try.prog 8 Try.f8 Rows.fnExactTrapdoorSpec Rows.fnExactTrapdoorRow = true := joined_of (by kernel_rfl)
theorem over : Rows.fnExactTrapdoorRow.holds Try.pinned (OpenSpec.ofChange Rows.fnExactTrapdoorSpec) :=
  OpenClaim.holds_of_wide 8 Try.f8 rfl rfl rfl rfl rfl rfl rfl ⟨rfl, rfl, rfl, rfl, rfl⟩ rfl rfl rfl rfl rfl (by kernel_rfl) Try.func8 closed
    (of_decide_eq_true (by kernel_rfl)) (by unfold Func.isWrapper; first | (rw [if_pos (by decide +kernel)]; kernel_rfl) | (rw [if_neg (by decide +kernel)]; exact ⟨rfl, rfl⟩))
    (fun os started H enc _ => lifted os started H enc)
/-- the statement -/
theorem proved : Rows.FnExactTrapdoorSaid :=
  over
end Go.Proofs.Ytjpjmlcmaombnaa.fnExactTrapdoor
