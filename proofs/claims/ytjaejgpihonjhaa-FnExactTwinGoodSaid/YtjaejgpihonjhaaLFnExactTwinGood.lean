/- FnExactTwinGood answers true at every input. No condition. -/
import Derived.Test.YtjaejgpihonjhaaRows
import Derived.Test.YtjaejgpihonjhaaLaw
import Derived.Test.YtjaejgpihonjhaaDoor
import Derived.Test.YtjaejgpihonjhaaLaw14
namespace Go.Proofs.Ytjaejgpihonjhaa.fnExactTwinGood
open Go.ChangeShapes Go.WideShapes Go.ChangeAt Go.RowKit
theorem own : ownKnob Try.prog.godebug = none := by kernel_rfl
set_option maxRecDepth 100000 in
theorem lifted (os : Os) (started : os.Started) (H : Type) (enc : TypeId × Value → H) :
    ReturnsInHanded {} Try.checked os 9 .any (Rows.fnExactTwinGoodSpec.pre6 enc Try.prog Try.f9 Rows.fnExactTwinGoodRow.domain false) (Rows.fnExactTwinGoodSpec.post enc Try.prog Try.f9 false true false false) := by
  refine returnsInHanded_of_change (C := Try.checked) own started (by kernel_rfl) Try.func9
    (ChangeSpec.witness6 (enc := enc) (C := Try.checked) false ⟨#[], #[.agg #[.int .i64 0, .int .i64 0], .agg #[.int .i64 0, .int .i64 0], .agg #[.int .i64 0, .int .i64 0, .int .i64 0, .int .i64 0]], []⟩ 8 (by kernel_rfl) (by kernel_rfl) (by kernel_rfl) (by kernel_rfl)) ?_
  intro W base args ds gs before hval0 hW hcnd _
  have hval : ∀ (j : Nat) t v, Try.f9.params[j]? = some t → args[j]? = some v → Value.okWide Try.prog W .any base t v := hval0
  have hW' := hW
  obtain ⟨p, q, hA0, hV, rfl, hfz, hnd⟩ := hW
  have hA : DataW.TrodAll enc Try.prog W 0 (fun _ => true) true Try.f9.params.toList args.toList ds p := hA0
  rw [Try.params9] at hA hval
  obtain ⟨v0, vs0, dd0, ds0, p0, q0, hargs, rfl, rfl, h0, r0⟩ := trodAll_cons hA
  obtain ⟨v1, vs1, dd1, ds1, p1, q1, rfl, rfl, rfl, h1, r1⟩ := trodAll_cons r0
  obtain ⟨v2, vs2, dd2, ds2, p2, q2, rfl, rfl, rfl, h2, r2⟩ := trodAll_cons r1
  obtain ⟨rfl, rfl, rfl⟩ := trodAll_nil r2
  obtain rfl : args = #[v0, v1, v2] := by cases args; simp_all
  obtain ⟨rfl, rfl⟩ := trodVars_none hV
  obtain ⟨u0_aBase, u1_aBase, y0_aBase, y1_aBase, fz_aBase, rfl, rfl, rfl, g0_aBase, g1_aBase⟩ := Go.Joins.open_agg2 Try.underlying37 (by kernel_rfl) (by kernel_rfl) (hval 0 37 v0 rfl rfl) h0
  obtain ⟨aBase_0, rfl, w0_aBase⟩ := field_int Try.underlying3 g0_aBase
  obtain ⟨aBase_1, rfl, w1_aBase⟩ := field_int Try.underlying3 g1_aBase
  obtain ⟨u0_aKey, u1_aKey, y0_aKey, y1_aKey, fz_aKey, rfl, rfl, rfl, g0_aKey, g1_aKey⟩ := Go.Joins.open_agg2 Try.underlying37 (by kernel_rfl) (by kernel_rfl) (hval 1 37 v1 rfl rfl) h1
  obtain ⟨aKey_0, rfl, w0_aKey⟩ := field_int Try.underlying3 g0_aKey
  obtain ⟨aKey_1, rfl, w1_aKey⟩ := field_int Try.underlying3 g1_aKey
  obtain ⟨u0_aT, u1_aT, u2_aT, u3_aT, y0_aT, y1_aT, y2_aT, y3_aT, fz_aT, rfl, rfl, rfl, g0_aT, g1_aT, g2_aT, g3_aT⟩ := Go.Joins.open_agg4 Try.underlying46 (by kernel_rfl) (by kernel_rfl) (hval 2 46 v2 rfl rfl) h2
  obtain ⟨aT_0, rfl, w0_aT⟩ := field_int Try.underlying3 g0_aT
  obtain ⟨aT_1, rfl, w1_aT⟩ := field_int Try.underlying3 g1_aT
  obtain ⟨aT_2, rfl, w2_aT⟩ := field_int Try.underlying3 g2_aT
  obtain ⟨aT_3, rfl, w3_aT⟩ := field_int Try.underlying3 g3_aT
  refine (TwinGood_walk aBase_0 aBase_1 aKey_0 aKey_1 aT_0 aT_1 aT_2 aT_3 W w0_aBase w1_aBase w0_aKey w1_aKey w0_aT w1_aT w2_aT w3_aT).mono fun e W' ⟨he, hb⟩ => ?_
  subst he
  exact ⟨_, rfl, post_law rfl rfl Try.underlying4 (by kernel_rfl) (by kernel_rfl) hW' rfl hb⟩

theorem closed : joinedFacts Try.prog 9 Try.f9 Rows.fnExactTwinGoodSpec Rows.fnExactTwinGoodRow = true := joined_of (by kernel_rfl)
theorem over : Rows.fnExactTwinGoodRow.holds Try.pinned (OpenSpec.ofChange Rows.fnExactTwinGoodSpec) :=
  OpenClaim.holds_of_wide 9 Try.f9 rfl rfl rfl rfl rfl rfl rfl ⟨rfl, rfl, rfl, rfl, rfl⟩ rfl rfl rfl rfl rfl (by kernel_rfl) Try.func9 closed
    (of_decide_eq_true (by kernel_rfl)) (by unfold Func.isWrapper; first | (rw [if_pos (by decide +kernel)]; kernel_rfl) | (rw [if_neg (by decide +kernel)]; exact ⟨rfl, rfl⟩))
    (fun os started H enc _ => lifted os started H enc)
/-- the statement -/
theorem proved : Rows.FnExactTwinGoodSaid :=
  over
end Go.Proofs.Ytjaejgpihonjhaa.fnExactTwinGood
