/- FnExactShareCheck answers true at every input. No condition. -/
import Derived.Test.YtjpjmlcmaombnaaRows
import Derived.Test.YtjpjmlcmaombnaaLaw
import Derived.Test.YtjpjmlcmaombnaaDoor
import Derived.Test.YtjpjmlcmaombnaaLw7f
import Derived.Test.YtjpjmlcmaombnaaFlat
namespace Go.Proofs.Ytjpjmlcmaombnaa.fnExactShareCheck
open Go.ChangeShapes Go.WideShapes Go.ChangeAt Go.RowKit
theorem own : ownKnob Try.prog.godebug = none := by kernel_rfl
set_option maxRecDepth 100000 in
theorem lifted (os : Os) (started : os.Started) (H : Type) (enc : TypeId × Value → H) :
    ReturnsInHanded {} Try.checked os 12 .any (Rows.fnExactShareCheckSpec.pre6 enc Try.prog Try.f12 Rows.fnExactShareCheckRow.domain false) (Rows.fnExactShareCheckSpec.post enc Try.prog Try.f12 false true false false) := by
  refine returnsInHanded_of_change (C := Try.checked) own started (by kernel_rfl) Try.func12
    (ChangeSpec.witness6 (enc := enc) (C := Try.checked) false ⟨#[], #[.slice none 0 0, .agg #[.int .i64 0, .int .i64 0]], []⟩ 8 (by kernel_rfl) (by kernel_rfl) (by kernel_rfl) (by kernel_rfl)) ?_
  intro W base args ds gs before hval0 hW hcnd _
  have hval : ∀ (j : Nat) t v, Try.f12.params[j]? = some t → args[j]? = some v → Value.okWide Try.prog W .any base t v := hval0
  have hW' := hW
  obtain ⟨p, q, hA0, hV, rfl, hfz, hnd⟩ := hW
  have hA : DataW.TrodAll enc Try.prog W 0 (fun _ => true) true Try.f12.params.toList args.toList ds p := hA0
  rw [Try.params12] at hA hval
  obtain ⟨v0, vs0, dd0, ds0, p0, q0, hargs, rfl, rfl, h0, r0⟩ := trodAll_cons hA
  obtain ⟨v1, vs1, dd1, ds1, p1, q1, rfl, rfl, rfl, h1, r1⟩ := trodAll_cons r0
  obtain ⟨rfl, rfl, rfl⟩ := trodAll_nil r1
  obtain rfl : args = #[v0, v1] := by cases args; simp_all
  obtain ⟨rfl, rfl⟩ := trodVars_none hV
  obtain ⟨A_aPublished, n_aPublished, c_aPublished, d_aPublished, rfl, hm_aPublished, h_aPublished⟩ := open_intS Try.underlying26 Try.underlying3 (by kernel_rfl) (hval 0 26 v0 rfl rfl) h0
  obtain ⟨u0_aShare, u1_aShare, y0_aShare, y1_aShare, fz_aShare, rfl, rfl, rfl, g0_aShare, g1_aShare⟩ := Go.Joins.open_agg2 Try.underlying51 (by kernel_rfl) (by kernel_rfl) (hval 1 51 v1 rfl rfl) h1
  obtain ⟨aShare_0, rfl, w0_aShare⟩ := field_int Try.underlying3 g0_aShare
  obtain ⟨aShare_1, rfl, w1_aShare⟩ := field_int Try.underlying3 g1_aShare
  refine (ShareCheck_walk A_aPublished n_aPublished c_aPublished d_aPublished aShare_0 aShare_1 W hm_aPublished h_aPublished w0_aShare w1_aShare).mono fun e W' ⟨he, hb⟩ => ?_
  subst he
  exact ⟨_, rfl, post_law rfl rfl Try.underlying4 (by kernel_rfl) (by kernel_rfl) hW' rfl hb⟩

theorem closed : joinedFacts Try.prog 12 Try.f12 Rows.fnExactShareCheckSpec Rows.fnExactShareCheckRow = true := joined_of (by kernel_rfl)
theorem over : Rows.fnExactShareCheckRow.holds Try.pinned (OpenSpec.ofChange Rows.fnExactShareCheckSpec) :=
  OpenClaim.holds_of_wide 12 Try.f12 rfl rfl rfl rfl rfl rfl rfl ⟨rfl, rfl, rfl, rfl, rfl⟩ rfl rfl rfl rfl rfl (by kernel_rfl) Try.func12 closed
    (of_decide_eq_true (by kernel_rfl)) (by unfold Func.isWrapper; first | (rw [if_pos (by decide +kernel)]; kernel_rfl) | (rw [if_neg (by decide +kernel)]; exact ⟨rfl, rfl⟩))
    (fun os started H enc _ => lifted os started H enc)
/-- the statement -/
theorem proved : Rows.FnExactShareCheckSaid :=
  over
end Go.Proofs.Ytjpjmlcmaombnaa.fnExactShareCheck
