/- FnExactQuotientTarget answers true at every input: at each argument the function and its model answer alike, no argument is written, and the answer owns its memory. No condition. -/
import Derived.Test.YtlagkinamnjnhaaRows
import Derived.Test.YtlagkinamnjnhaaLaw
import Derived.Test.YtlagkinamnjnhaaDoor
import Derived.Test.YtlagkinamnjnhaaWalk19a
import Derived.Test.YtlagkinamnjnhaaFaceI
namespace Go.Proofs.Ytlagkinamnjnhaa.fnExactQuotientTarget
open Go.ChangeShapes Go.WideShapes Go.ChangeAt Go.RowKit
theorem own : ownKnob Try.prog.godebug = none := by kernel_rfl
set_option maxRecDepth 100000 in
set_option maxHeartbeats 4000000 in
theorem walk (aN : Int) (w : World) (_w_aN : (Lit.int .i64 aN).wf = true) :
    Calls Try.prog 5 #[.int .i64 aN] w fun e w' => e = .returned (.bool true) ∧ Below w.heap.size w w' := by
  go_enter Try.func5, Try.ntmps5
  go_wp2_with fail
  refine (X_s_QuotientTarget  aN _  ).mono ?_
  rintro e w1 ⟨w0_w1, rfl, hx2, hy3⟩
  have z4 : w.heap.size ≤ w1.heap.size := hy3.size
  have HO5 := Lib.hid hx2
  clear hx2
  have HS6 := Lib.hid hy3
  clear hy3
  have HB7 : Hid (Below w.heap.size w w1) := Lib.hid (HS6.out.mono (by omega))
  clear HS6
  go_wp2_with fail
  refine (X_i_QuotientTarget  aN _  ).mono ?_
  rintro e w8 ⟨g0_w8, rfl, hx9, hy10⟩
  have z11 : w1.heap.size ≤ w8.heap.size := hy10.size
  have HO12 := Lib.hid hx9
  clear hx9
  have HS13 := Lib.hid hy10
  clear hy10
  have HO14 := Lib.hid (HO5.out.below HS13.out (by omega))
  clear HO5
  have HB15 : Hid (Below w.heap.size w w8) := Lib.hid (HB7.out.trans (HS13.out.mono (by omega)))
  clear HB7
  clear HS13
  go_wp2_with fail
  refine (L_eqIntS _ _ _ _ _ _ HO12.out.rd HO14.out.rd (by omega) (by omega) HO12.out.small).mono ?_
  rintro e w16 ⟨rfl, hx17⟩
  have z18 : w8.heap.size ≤ w16.heap.size := hx17.size
  have HS19 := Lib.hid hx17
  clear hx17
  have HO20 := Lib.hid (HO14.out.below HS19.out (by omega))
  clear HO14
  have HO21 := Lib.hid (HO12.out.below HS19.out (by omega))
  clear HO12
  have HB22 : Hid (Below w.heap.size w w16) := Lib.hid (HB15.out.trans (HS19.out.mono (by omega)))
  clear HB15
  clear HS19
  have hs23 := HO21.out.small
  go_wp2_with fail
  refine (L_markIntS _ _ _ _ _ _ HO21.out (by omega) (by omega) (by omega)).mono ?_
  rintro e w24 ⟨K25, rfl, hk26, h0_27, h1_28, hx29, hy30⟩
  have z31 : w16.heap.size ≤ w24.heap.size := hy30.size
  have HO32 := Lib.hid hx29
  have HS33 := Lib.hid hy30
  clear hx29 hy30
  have HO34 := Lib.hid (HO20.out.kept HS33.out (by omega) (by omega))
  clear HO20
  have HB35 : Hid (Below w.heap.size w w24) := Lib.hid (HB22.out.trans ((HS33.out.to_below (by omega)).mono (by omega)))
  clear HB22
  clear HS33 HO21
  go_wp2_with fail
  refine (L_heldIntS _ _ (R_QuotientTarget_0 aN) 1 _ _ HO32.out.rd (by omega) hs23 (Lib.hid rfl) (by omega) (by omega)).mono ?_
  rintro e w36 ⟨K37, rfl, hk38, h0_39, h1_40, hx41⟩
  have z42 : w24.heap.size ≤ w36.heap.size := hx41.size
  have HS43 := Lib.hid hx41
  clear hx41
  have HE44 : Hid (K37 = K25) := Lib.hid (by rw [hk38.out, hk26.out])
  have hne45 : (K37 != K25) = false := by rw [HE44.out]; simp
  have HO46 := Lib.hid (HO34.out.below HS43.out (by omega))
  clear HO34
  have HO47 := Lib.hid (HO32.out.below HS43.out (by omega))
  clear HO32
  have HB48 : Hid (Below w.heap.size w w36) := Lib.hid (HB35.out.trans (HS43.out.mono (by omega)))
  clear HB35
  clear HS43
  go_wp2_with fail
  refine (X_i_QuotientTarget  aN _  ).mono ?_
  rintro e w49 ⟨h0_w49, rfl, hx50, hy51⟩
  have z52 : w36.heap.size ≤ w49.heap.size := hy51.size
  have HO53 := Lib.hid hx50
  clear hx50
  have HS54 := Lib.hid hy51
  clear hy51
  have HO55 := Lib.hid (HO46.out.below HS54.out (by omega))
  clear HO46
  have HO56 := Lib.hid (HO47.out.below HS54.out (by omega))
  clear HO47
  have HB57 : Hid (Below w.heap.size w w49) := Lib.hid (HB48.out.trans (HS54.out.mono (by omega)))
  clear HB48
  clear HS54
  go_wp2_with fail
  refine (L_eqIntS _ _ _ _ _ _ HO53.out.rd HO55.out.rd (by omega) (by omega) HO53.out.small).mono ?_
  rintro e w58 ⟨rfl, hx59⟩
  have z60 : w49.heap.size ≤ w58.heap.size := hx59.size
  have HS61 := Lib.hid hx59
  clear hx59
  have HO62 := Lib.hid (HO55.out.below HS61.out (by omega))
  clear HO55
  have HO63 := Lib.hid (HO56.out.below HS61.out (by omega))
  clear HO56
  have HO64 := Lib.hid (HO53.out.below HS61.out (by omega))
  clear HO53
  have HB65 : Hid (Below w.heap.size w w58) := Lib.hid (HB57.out.trans (HS61.out.mono (by omega)))
  clear HB57
  clear HS61
  go_wp2_with fail
  refine (L_heldIntS _ _ (R_QuotientTarget_0 aN) 1 _ _ HO63.out.rd (by omega) hs23 (Lib.hid rfl) (by omega) (by omega)).mono ?_
  rintro e w66 ⟨K67, rfl, hk68, h0_69, h1_70, hx71⟩
  have z72 : w58.heap.size ≤ w66.heap.size := hx71.size
  have HS73 := Lib.hid hx71
  clear hx71
  have HE74 : Hid (K67 = K25) := Lib.hid (by rw [hk68.out, hk26.out])
  have hne75 : (K67 != K25) = false := by rw [HE74.out]; simp
  have HO76 := Lib.hid (HO62.out.below HS73.out (by omega))
  clear HO62
  have HO77 := Lib.hid (HO63.out.below HS73.out (by omega))
  clear HO63
  have HO78 := Lib.hid (HO64.out.below HS73.out (by omega))
  clear HO64
  have HB79 : Hid (Below w.heap.size w w66) := Lib.hid (HB65.out.trans (HS73.out.mono (by omega)))
  clear HB65
  clear HS73
  go_wp2
  go_ret
  exact ⟨rfl, HB79.out⟩

set_option maxRecDepth 100000 in
theorem lifted (os : Os) (started : os.Started) (H : Type) (enc : TypeId × Value → H) :
    ReturnsInHanded {} Try.checked os 5 .any (Rows.fnExactQuotientTargetSpec.pre6 enc Try.prog Try.f5 Rows.fnExactQuotientTargetRow.domain false) (Rows.fnExactQuotientTargetSpec.post enc Try.prog Try.f5 false true false false) := by
  refine returnsInHanded_of_change (C := Try.checked) own started (by kernel_rfl) Try.func5
    (ChangeSpec.witness6 (enc := enc) (C := Try.checked) false ⟨#[], #[.int .i64 0], []⟩ 8 (by kernel_rfl) (by kernel_rfl) (by kernel_rfl) (by kernel_rfl)) ?_
  intro W base args ds gs before hval0 hW hcnd _
  have hval : ∀ (j : Nat) t v, Try.f5.params[j]? = some t → args[j]? = some v → Value.okWide Try.prog W .any base t v := hval0
  have hW' := hW
  obtain ⟨p, q, hA0, hV, rfl, hfz, hnd⟩ := hW
  have hA : DataW.TrodAll enc Try.prog W 0 (fun _ => true) true Try.f5.params.toList args.toList ds p := hA0
  rw [Try.params5] at hA hval
  obtain ⟨v0, vs0, dd0, ds0, p0, q0, hargs, rfl, rfl, h0, r0⟩ := trodAll_cons hA
  obtain ⟨rfl, rfl, rfl⟩ := trodAll_nil r0
  obtain rfl : args = #[v0] := by cases args; simp_all
  obtain ⟨rfl, rfl⟩ := trodVars_none hV
  obtain ⟨aN, rfl, rfl, rfl, w_aN⟩ := open_int Try.underlying3 (hval 0 3 v0 rfl rfl) h0
  refine (walk aN W w_aN).mono fun e W' ⟨he, hb⟩ => ?_
  subst he
  exact ⟨_, rfl, post_law rfl rfl Try.underlying4 (by kernel_rfl) (by kernel_rfl) hW' rfl hb⟩

theorem closed : joinedFacts Try.prog 5 Try.f5 Rows.fnExactQuotientTargetSpec Rows.fnExactQuotientTargetRow = true := joined_of (by kernel_rfl)
theorem over : Rows.fnExactQuotientTargetRow.holds Try.pinned (OpenSpec.ofChange Rows.fnExactQuotientTargetSpec) :=
  OpenClaim.holds_of_wide 5 Try.f5 rfl rfl rfl rfl rfl rfl rfl ⟨rfl, rfl, rfl, rfl, rfl⟩ rfl rfl rfl rfl rfl (by kernel_rfl) Try.func5 closed
    (of_decide_eq_true (by kernel_rfl)) (by unfold Func.isWrapper; first | (rw [if_pos (by decide +kernel)]; kernel_rfl) | (rw [if_neg (by decide +kernel)]; exact ⟨rfl, rfl⟩))
    (fun os started H enc _ => lifted os started H enc)
/-- the statement -/
theorem proved : Rows.FnExactQuotientTargetSaid :=
  over
end Go.Proofs.Ytlagkinamnjnhaa.fnExactQuotientTarget
