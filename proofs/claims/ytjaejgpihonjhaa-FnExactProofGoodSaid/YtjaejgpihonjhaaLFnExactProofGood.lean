/- FnExactProofGood answers true at every input. No condition. -/
import Derived.Test.YtjaejgpihonjhaaRows
import Derived.Test.YtjaejgpihonjhaaLaw
import Derived.Test.YtjaejgpihonjhaaDoor
import Derived.Test.YtjaejgpihonjhaaLaw14
namespace Go.Proofs.Ytjaejgpihonjhaa.fnExactProofGood
open Go.ChangeShapes Go.WideShapes Go.ChangeAt Go.RowKit
theorem own : ownKnob Try.prog.godebug = none := by kernel_rfl
set_option maxRecDepth 100000 in
theorem lifted (os : Os) (started : os.Started) (H : Type) (enc : TypeId × Value → H) :
    ReturnsInHanded {} Try.checked os 4 .any (Rows.fnExactProofGoodSpec.pre6 enc Try.prog Try.f4 Rows.fnExactProofGoodRow.domain false) (Rows.fnExactProofGoodSpec.post enc Try.prog Try.f4 false true false false) := by
  refine returnsInHanded_of_change (C := Try.checked) own started (by kernel_rfl) Try.func4
    (ChangeSpec.witness6 (enc := enc) (C := Try.checked) false ⟨#[], #[.int .i64 0, .agg #[.int .i64 0, .int .i64 0, .int .i64 0]], []⟩ 8 (by kernel_rfl) (by kernel_rfl) (by kernel_rfl) (by kernel_rfl)) ?_
  intro W base args ds gs before hval0 hW hcnd _
  have hval : ∀ (j : Nat) t v, Try.f4.params[j]? = some t → args[j]? = some v → Value.okWide Try.prog W .any base t v := hval0
  have hW' := hW
  obtain ⟨p, q, hA0, hV, rfl, hfz, hnd⟩ := hW
  have hA : DataW.TrodAll enc Try.prog W 0 (fun _ => true) true Try.f4.params.toList args.toList ds p := hA0
  rw [Try.params4] at hA hval
  obtain ⟨v0, vs0, dd0, ds0, p0, q0, hargs, rfl, rfl, h0, r0⟩ := trodAll_cons hA
  obtain ⟨v1, vs1, dd1, ds1, p1, q1, rfl, rfl, rfl, h1, r1⟩ := trodAll_cons r0
  obtain ⟨rfl, rfl, rfl⟩ := trodAll_nil r1
  obtain rfl : args = #[v0, v1] := by cases args; simp_all
  obtain ⟨rfl, rfl⟩ := trodVars_none hV
  obtain ⟨aKey, rfl, rfl, rfl, w_aKey⟩ := open_int Try.underlying3 (hval 0 3 v0 rfl rfl) h0
  obtain ⟨u0_aP, u1_aP, u2_aP, y0_aP, y1_aP, y2_aP, fz_aP, rfl, rfl, rfl, g0_aP, g1_aP, g2_aP⟩ := Go.Joins.open_agg3 Try.underlying28 (by kernel_rfl) (by kernel_rfl) (hval 1 28 v1 rfl rfl) h1
  obtain ⟨aP_0, rfl, w0_aP⟩ := field_int Try.underlying3 g0_aP
  obtain ⟨aP_1, rfl, w1_aP⟩ := field_int Try.underlying3 g1_aP
  obtain ⟨aP_2, rfl, w2_aP⟩ := field_int Try.underlying3 g2_aP
  refine (ProofGood_walk aKey aP_0 aP_1 aP_2 W w_aKey w0_aP w1_aP w2_aP).mono fun e W' ⟨he, hb⟩ => ?_
  subst he
  exact ⟨_, rfl, post_law rfl rfl Try.underlying4 (by kernel_rfl) (by kernel_rfl) hW' rfl hb⟩

theorem closed : joinedFacts Try.prog 4 Try.f4 Rows.fnExactProofGoodSpec Rows.fnExactProofGoodRow = true := joined_of (by kernel_rfl)
theorem over : Rows.fnExactProofGoodRow.holds Try.pinned (OpenSpec.ofChange Rows.fnExactProofGoodSpec) :=
  OpenClaim.holds_of_wide 4 Try.f4 rfl rfl rfl rfl rfl rfl rfl ⟨rfl, rfl, rfl, rfl, rfl⟩ rfl rfl rfl rfl rfl (by kernel_rfl) Try.func4 closed
    (of_decide_eq_true (by kernel_rfl)) (by unfold Func.isWrapper; first | (rw [if_pos (by decide +kernel)]; kernel_rfl) | (rw [if_neg (by decide +kernel)]; exact ⟨rfl, rfl⟩))
    (fun os started H enc _ => lifted os started H enc)
/-- the statement -/
theorem proved : Rows.FnExactProofGoodSaid :=
  over
end Go.Proofs.Ytjaejgpihonjhaa.fnExactProofGood
