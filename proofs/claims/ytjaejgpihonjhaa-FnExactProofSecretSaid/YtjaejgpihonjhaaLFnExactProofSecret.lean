/- FnExactProofSecret answers true at every input. No condition. -/
import Derived.Test.YtjaejgpihonjhaaRows
import Derived.Test.YtjaejgpihonjhaaLaw
import Derived.Test.YtjaejgpihonjhaaDoor
import Derived.Test.YtjaejgpihonjhaaLaw14
namespace Go.Proofs.Ytjaejgpihonjhaa.fnExactProofSecret
open Go.ChangeShapes Go.WideShapes Go.ChangeAt Go.RowKit
theorem own : ownKnob Try.prog.godebug = none := by kernel_rfl
set_option maxRecDepth 100000 in
theorem lifted (os : Os) (started : os.Started) (H : Type) (enc : TypeId × Value → H) :
    ReturnsInHanded {} Try.checked os 5 .any (Rows.fnExactProofSecretSpec.pre6 enc Try.prog Try.f5 Rows.fnExactProofSecretRow.domain false) (Rows.fnExactProofSecretSpec.post enc Try.prog Try.f5 false true false false) := by
  refine returnsInHanded_of_change (C := Try.checked) own started (by kernel_rfl) Try.func5
    (ChangeSpec.witness6 (enc := enc) (C := Try.checked) false ⟨#[], #[.int .i64 0, .agg #[.int .i64 0, .int .i64 0, .int .i64 0], .agg #[.int .i64 0, .int .i64 0, .int .i64 0]], []⟩ 8 (by kernel_rfl) (by kernel_rfl) (by kernel_rfl) (by kernel_rfl)) ?_
  intro W base args ds gs before hval0 hW hcnd _
  have hval : ∀ (j : Nat) t v, Try.f5.params[j]? = some t → args[j]? = some v → Value.okWide Try.prog W .any base t v := hval0
  have hW' := hW
  obtain ⟨p, q, hA0, hV, rfl, hfz, hnd⟩ := hW
  have hA : DataW.TrodAll enc Try.prog W 0 (fun _ => true) true Try.f5.params.toList args.toList ds p := hA0
  rw [Try.params5] at hA hval
  obtain ⟨v0, vs0, dd0, ds0, p0, q0, hargs, rfl, rfl, h0, r0⟩ := trodAll_cons hA
  obtain ⟨v1, vs1, dd1, ds1, p1, q1, rfl, rfl, rfl, h1, r1⟩ := trodAll_cons r0
  obtain ⟨v2, vs2, dd2, ds2, p2, q2, rfl, rfl, rfl, h2, r2⟩ := trodAll_cons r1
  obtain ⟨rfl, rfl, rfl⟩ := trodAll_nil r2
  obtain rfl : args = #[v0, v1, v2] := by cases args; simp_all
  obtain ⟨rfl, rfl⟩ := trodVars_none hV
  obtain ⟨aKey, rfl, rfl, rfl, w_aKey⟩ := open_int Try.underlying3 (hval 0 3 v0 rfl rfl) h0
  obtain ⟨u0_aP, u1_aP, u2_aP, y0_aP, y1_aP, y2_aP, fz_aP, rfl, rfl, rfl, g0_aP, g1_aP, g2_aP⟩ := Go.Joins.open_agg3 Try.underlying28 (by kernel_rfl) (by kernel_rfl) (hval 1 28 v1 rfl rfl) h1
  obtain ⟨aP_0, rfl, w0_aP⟩ := field_int Try.underlying3 g0_aP
  obtain ⟨aP_1, rfl, w1_aP⟩ := field_int Try.underlying3 g1_aP
  obtain ⟨aP_2, rfl, w2_aP⟩ := field_int Try.underlying3 g2_aP
  obtain ⟨u0_aQ, u1_aQ, u2_aQ, y0_aQ, y1_aQ, y2_aQ, fz_aQ, rfl, rfl, rfl, g0_aQ, g1_aQ, g2_aQ⟩ := Go.Joins.open_agg3 Try.underlying28 (by kernel_rfl) (by kernel_rfl) (hval 2 28 v2 rfl rfl) h2
  obtain ⟨aQ_0, rfl, w0_aQ⟩ := field_int Try.underlying3 g0_aQ
  obtain ⟨aQ_1, rfl, w1_aQ⟩ := field_int Try.underlying3 g1_aQ
  obtain ⟨aQ_2, rfl, w2_aQ⟩ := field_int Try.underlying3 g2_aQ
  refine (ProofSecret_walk aKey aP_0 aP_1 aP_2 aQ_0 aQ_1 aQ_2 W w_aKey w0_aP w1_aP w2_aP w0_aQ w1_aQ w2_aQ).mono fun e W' ⟨he, hb⟩ => ?_
  subst he
  exact ⟨_, rfl, post_law rfl rfl Try.underlying4 (by kernel_rfl) (by kernel_rfl) hW' rfl hb⟩

theorem closed : joinedFacts Try.prog 5 Try.f5 Rows.fnExactProofSecretSpec Rows.fnExactProofSecretRow = true := joined_of (by kernel_rfl)
theorem over : Rows.fnExactProofSecretRow.holds Try.pinned (OpenSpec.ofChange Rows.fnExactProofSecretSpec) :=
  OpenClaim.holds_of_wide 5 Try.f5 rfl rfl rfl rfl rfl rfl rfl ⟨rfl, rfl, rfl, rfl, rfl⟩ rfl rfl rfl rfl rfl (by kernel_rfl) Try.func5 closed
    (of_decide_eq_true (by kernel_rfl)) (by unfold Func.isWrapper; first | (rw [if_pos (by decide +kernel)]; kernel_rfl) | (rw [if_neg (by decide +kernel)]; exact ⟨rfl, rfl⟩))
    (fun os started H enc _ => lifted os started H enc)
/-- the statement -/
theorem proved : Rows.FnExactProofSecretSaid :=
  over
end Go.Proofs.Ytjaejgpihonjhaa.fnExactProofSecret
