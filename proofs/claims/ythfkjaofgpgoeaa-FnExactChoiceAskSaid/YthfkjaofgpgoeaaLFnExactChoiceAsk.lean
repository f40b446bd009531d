/- FnExactChoiceAsk answers true at every input: at each argument the function and its model answer alike, no argument is written, and the answer owns its memory. No condition. -/
import Derived.Test.YthfkjaofgpgoeaaRows
import Derived.Test.YthfkjaofgpgoeaaLaw
import Derived.Test.YthfkjaofgpgoeaaDoor
import Derived.Test.YthfkjaofgpgoeaaWalk11a
import Derived.Test.YthfkjaofgpgoeaaOpenC
namespace Go.Proofs.Ythfkjaofgpgoeaa.fnExactChoiceAsk
open Go.ChangeShapes Go.WideShapes Go.ChangeAt Go.RowKit
theorem own : ownKnob Try.prog.godebug = none := by kernel_rfl
set_option maxRecDepth 100000 in
set_option maxHeartbeats 4000000 in
theorem walk (A0_aD : Option Addr) (n0_aD c0_aD : Nat) (d0_aD : List Int) (z1_aD : Int) (aChoice : Int) (w : World) (h0_aD : RdIntS w w.heap.size (.slice A0_aD n0_aD c0_aD) d0_aD) (_w_aChoice : (Lit.int .i64 aChoice).wf = true) :
    Calls Try.prog 12 #[.agg #[.slice A0_aD n0_aD c0_aD, .int .i64 z1_aD], .int .i64 aChoice] w fun e w' => e = .returned (.bool true) ∧ Below w.heap.size w w' := by
  obtain ⟨d_aD, hd_aD⟩ : ∃ d, d = (d0_aD, z1_aD) := ⟨_, rfl⟩
  have Ha_aD : Hid (RdDeal w w.heap.size (.agg #[.slice A0_aD n0_aD c0_aD, .int .i64 z1_aD]) d_aD) := Lib.hid (by rw [hd_aD]; exact ⟨_, _, _, rfl, h0_aD⟩)
  clear h0_aD hd_aD
  go_enter Try.func12, Try.ntmps12
  obtain ⟨W0, hW0⟩ : ∃ W, Hid ((w.alloc (.cells #[.slice A0_aD n0_aD c0_aD, .int .i64 z1_aD] 50)) = W) := ⟨_, Lib.hid rfl⟩
  have HB_0 : Hid (Below w.heap.size w W0) := Lib.hid (by rw [← hW0.out]; exact (Below.refl _ _).alloc (Nat.le_refl _) _)
  have z_0 : W0.heap.size = w.heap.size + 1 := by rw [← hW0.out]; simp only [World.size_alloc]
  have HX_aD : Hid (Bx W0 (w.heap.size) #[.slice A0_aD n0_aD c0_aD, .int .i64 z1_aD] 50) := Lib.hid (by rw [← hW0.out]; have := Bx.new w #[.slice A0_aD n0_aD c0_aD, .int .i64 z1_aD] 50; exact this)
  go_wp2_with fail
  rw [hW0.out]
  clear hW0
  rcases Int.lt_or_le 1048576 (szDeal d_aD : Nat) with hl1 | hl1
  · refine (L_szDeal_no _ _ _ _ _ (RdDeal.below Ha_aD.out HB_0.out) (by omega) (by omega) (by omega) hl1).mono ?_
    rintro e w' ⟨rfl, hb⟩
    have hb2 := Lib.hid (HB_0.out.trans (hb.mono (by omega)))
    clear hb
    go_wp2
    go_ret
    exact ⟨rfl, hb2.out⟩
  refine (L_szDeal_ok _ _ _ _ _ (RdDeal.below Ha_aD.out HB_0.out) (by omega) (by omega) (by omega) hl1).mono ?_
  rintro e w2 ⟨L3, rfl, hx6, h0_4, h1_5, hy7⟩
  have hs_aD : szDeal d_aD ≤ 1048576 := by omega
  have z8 : W0.heap.size ≤ w2.heap.size := hy7.size
  have HS9 := Lib.hid hy7
  clear hy7
  have HX10 := Lib.hid (HX_aD.out.below HS9.out HX_aD.out.lt)
  clear HX_aD
  have HB11 : Hid (Below w.heap.size w w2) := Lib.hid (HB_0.out.trans (HS9.out.mono (by omega)))
  clear HB_0
  clear HS9
  have fc17 : w2.cell? ⟨w.heap.size, 0, none⟩ = some (.slice A0_aD n0_aD c0_aD) := HX10.out.cell 0
  have fc18 : w2.cell? ⟨w.heap.size, 1, none⟩ = some (.int .i64 z1_aD) := HX10.out.cell 1
  go_wp2_with fail
  refine (L_toDeal _ _ _ _ (RdDeal.below Ha_aD.out HB11.out) HB11.out.size hs_aD).mono ?_
  rintro e w13 ⟨v12, rfl, hx19, hy20⟩
  have z16 : w2.heap.size ≤ w13.heap.size := hy20.size
  obtain ⟨A0_v12, n0_v12, c0_v12, hv21⟩ : ∃ A0_v12 n0_v12 c0_v12, v12 = .agg #[.slice A0_v12 n0_v12 c0_v12, .int .i64 (d_aD.2)] := by obtain ⟨_, _, _, _, _, _, rfl, _⟩ := hx19; exact ⟨_, _, _, rfl⟩
  subst hv21
  have HO14 := Lib.hid hx19
  have HS15 := Lib.hid hy20
  clear hx19 hy20
  clear fc17 fc18
  have HX22 := Lib.hid (HX10.out.below HS15.out HX10.out.lt)
  clear HX10
  have HB23 : Hid (Below w.heap.size w w13) := Lib.hid (HB11.out.trans (HS15.out.mono (by omega)))
  clear HB11
  clear HS15
  have fc24 : w13.cell? ⟨w.heap.size, 0, none⟩ = some (.slice A0_aD n0_aD c0_aD) := HX22.out.cell 0
  have fc25 : w13.cell? ⟨w.heap.size, 1, none⟩ = some (.int .i64 z1_aD) := HX22.out.cell 1
  go_wp2_with fail
  refine (X_s_ChoiceAsk _ d_aD aChoice _ (HO14.out.rd.more (by omega)) hs_aD).mono ?_
  rintro e w26 ⟨rfl, hy27⟩
  have z28 : w13.heap.size ≤ w26.heap.size := hy27.size
  have HS29 := Lib.hid hy27
  clear hy27
  clear fc24 fc25
  have HO30 := Lib.hid (HO14.out.below HS29.out (by omega))
  clear HO14
  have HX31 := Lib.hid (HX22.out.below HS29.out HX22.out.lt)
  clear HX22
  have HB32 : Hid (Below w.heap.size w w26) := Lib.hid (HB23.out.trans (HS29.out.mono (by omega)))
  clear HB23
  clear HS29
  clear HO30
  have fc38 : w26.cell? ⟨w.heap.size, 0, none⟩ = some (.slice A0_aD n0_aD c0_aD) := HX31.out.cell 0
  have fc39 : w26.cell? ⟨w.heap.size, 1, none⟩ = some (.int .i64 z1_aD) := HX31.out.cell 1
  go_wp2_with fail
  refine (L_toDeal _ _ _ _ (RdDeal.below Ha_aD.out HB32.out) HB32.out.size hs_aD).mono ?_
  rintro e w34 ⟨v33, rfl, hx40, hy41⟩
  have z37 : w26.heap.size ≤ w34.heap.size := hy41.size
  obtain ⟨A0_v33, n0_v33, c0_v33, hv42⟩ : ∃ A0_v33 n0_v33 c0_v33, v33 = .agg #[.slice A0_v33 n0_v33 c0_v33, .int .i64 (d_aD.2)] := by obtain ⟨_, _, _, _, _, _, rfl, _⟩ := hx40; exact ⟨_, _, _, rfl⟩
  subst hv42
  have HO35 := Lib.hid hx40
  have HS36 := Lib.hid hy41
  clear hx40 hy41
  clear fc38 fc39
  have HX43 := Lib.hid (HX31.out.below HS36.out HX31.out.lt)
  clear HX31
  have HB44 : Hid (Below w.heap.size w w34) := Lib.hid (HB32.out.trans (HS36.out.mono (by omega)))
  clear HB32
  clear HS36
  have fc45 : (w34.alloc (.cells #[.slice A0_v33 n0_v33 c0_v33, .int .i64 (d_aD.2)] 53)).cell? ⟨w.heap.size, 0, none⟩ = some (.slice A0_aD n0_aD c0_aD) := (HX43.out.alloc _).cell 0
  have fc46 : (w34.alloc (.cells #[.slice A0_v33 n0_v33 c0_v33, .int .i64 (d_aD.2)] 53)).cell? ⟨w.heap.size, 1, none⟩ = some (.int .i64 z1_aD) := (HX43.out.alloc _).cell 1
  go_wp2_with fail
  clear fc45 fc46
  obtain ⟨w47, hW48⟩ : ∃ W, Hid (w34.alloc (.cells #[.slice A0_v33 n0_v33 c0_v33, .int .i64 (d_aD.2)] 53) = W) := ⟨_, Lib.hid rfl⟩
  have z49 : w47.heap.size = w34.heap.size + 1 := by rw [← hW48.out, World.size_alloc]
  have HS50 : Hid (Below w34.heap.size w34 w47) := Lib.hid (by rw [← hW48.out]; exact (Below.refl _ _).alloc (Nat.le_refl _) _)
  have HX51 : Hid (Bx w47 w34.heap.size #[.slice A0_v33 n0_v33 c0_v33, .int .i64 (d_aD.2)] 53) := Lib.hid (by rw [← hW48.out]; exact Bx.new _ _ _)
  have HO52 := Lib.hid (HO35.out.below HS50.out (by omega))
  clear HO35
  have HX53 := Lib.hid (HX43.out.below HS50.out HX43.out.lt)
  clear HX43
  have HB54 : Hid (Below w.heap.size w w47) := Lib.hid (HB44.out.trans (HS50.out.mono (by omega)))
  clear HB44
  clear HS50
  rw [hW48.out]
  clear hW48
  refine (X_i_ChoiceAsk _ d_aD aChoice _ (HO52.out.rd.more (by omega)) hs_aD).mono ?_
  rintro e w55 ⟨rfl, hy56⟩
  have z57 : w47.heap.size ≤ w55.heap.size := hy56.size
  have HS58 := Lib.hid hy56
  clear hy56
  have HO59 := Lib.hid (HO52.out.below HS58.out (by omega))
  clear HO52
  have HX60 := Lib.hid (HX53.out.below HS58.out HX53.out.lt)
  clear HX53
  have HX61 := Lib.hid (HX51.out.below HS58.out HX51.out.lt)
  clear HX51
  have HB62 : Hid (Below w.heap.size w w55) := Lib.hid (HB54.out.trans (HS58.out.mono (by omega)))
  clear HB54
  clear HS58
  have hq_aD_0 : w55.cell? ⟨w.heap.size, 0, none⟩ = some (.slice A0_aD n0_aD c0_aD) := HX60.out.cell 0
  have hq_aD_1 : w55.cell? ⟨w.heap.size, 1, none⟩ = some (.int .i64 z1_aD) := HX60.out.cell 1
  have hq_x0_0 : w55.cell? ⟨w34.heap.size, 0, none⟩ = some (.slice A0_v33 n0_v33 c0_v33) := HX61.out.cell 0
  have hq_x0_1 : w55.cell? ⟨w34.heap.size, 1, none⟩ = some (.int .i64 (d_aD.2)) := HX61.out.cell 1
  have hbq := Below.refl w55.heap.size w55
  have hsq := And.intro hbq (And.intro hq_aD_0 (And.intro hq_aD_1 (And.intro hq_x0_0 hq_x0_1)))
  go_wp2
  go_region_held3 (fun w' => Below w55.heap.size w55 w' ∧ w'.cell? ⟨w.heap.size, 0, none⟩ = some (.slice A0_aD n0_aD c0_aD) ∧ w'.cell? ⟨w.heap.size, 1, none⟩ = some (.int .i64 z1_aD) ∧ w'.cell? ⟨w34.heap.size, 0, none⟩ = some (.slice A0_v33 n0_v33 c0_v33) ∧ w'.cell? ⟨w34.heap.size, 1, none⟩ = some (.int .i64 (d_aD.2)))
    (first | exact ⟨hbq, hq_aD_0, hq_aD_1, hq_x0_0, hq_x0_1⟩ | exact ⟨hbq.drew, hq_aD_0, hq_aD_1, hq_x0_0, hq_x0_1⟩)
    (first
      | (go_at_call 49
         refine (L_toDeal w.heap.size _ d_aD _ (RdDeal.below Ha_aD.out (Below.trans HB62.out (Below.mono (by first | exact hbq | exact hbq.drew) (by exact HB62.out.size)))) (by exact Nat.le_trans (HB62.out).size hbq.size) hs_aD).mono ?_
         rintro e w3 ⟨vq, rfl, hoq, hbq3⟩
         obtain ⟨A0_vq, n0_vq, c0_vq, hvq⟩ : ∃ A0_vq n0_vq c0_vq, vq = .agg #[.slice A0_vq n0_vq c0_vq, .int .i64 (d_aD.2)] := by obtain ⟨_, _, _, _, _, _, rfl, _⟩ := hoq; exact ⟨_, _, _, rfl⟩
         subst hvq
         have hbn : Below w55.heap.size w55 w3 := Below.trans (by first | exact hbq | exact hbq.drew) (hbq3.mono (by exact hbq.size))
         have nhq_aD_0 : w3.cell? ⟨w.heap.size, 0, none⟩ = some (.slice A0_aD n0_aD c0_aD) := (HX60.out.below hbn HX60.out.lt).cell 0
         have nhq_aD_1 : w3.cell? ⟨w.heap.size, 1, none⟩ = some (.int .i64 z1_aD) := (HX60.out.below hbn HX60.out.lt).cell 1
         have nhq_x0_0 : w3.cell? ⟨w34.heap.size, 0, none⟩ = some (.slice A0_v33 n0_v33 c0_v33) := (HX61.out.below hbn HX61.out.lt).cell 0
         have nhq_x0_1 : w3.cell? ⟨w34.heap.size, 1, none⟩ = some (.int .i64 (d_aD.2)) := (HX61.out.below hbn HX61.out.lt).cell 1
         clear hbq hq_aD_0 hq_aD_1 hq_x0_0 hq_x0_1 hbq3
         have hbq := hbn
         have hq_aD_0 := nhq_aD_0
         have hq_aD_1 := nhq_aD_1
         have hq_x0_0 := nhq_x0_0
         have hq_x0_1 := nhq_x0_1
         clear hbn nhq_aD_0 nhq_aD_1 nhq_x0_0 nhq_x0_1)
      | (go_at_call 51
         refine (L_eqDeal _ _ _ _ d_aD _ (by exact HO59.out.rd.below (hbq.mono (by omega))) (by exact hoq.rd) (by have := hbq.size; omega) (by exact Nat.le_refl _) hs_aD).mono ?_
         rintro e w4 ⟨rfl, hbq4⟩
         have hbn : Below w55.heap.size w55 w4 := Below.trans (by first | exact hbq | exact hbq.drew) (hbq4.mono (by exact hbq.size))
         have nhq_aD_0 : w4.cell? ⟨w.heap.size, 0, none⟩ = some (.slice A0_aD n0_aD c0_aD) := (HX60.out.below hbn HX60.out.lt).cell 0
         have nhq_aD_1 : w4.cell? ⟨w.heap.size, 1, none⟩ = some (.int .i64 z1_aD) := (HX60.out.below hbn HX60.out.lt).cell 1
         have nhq_x0_0 : w4.cell? ⟨w34.heap.size, 0, none⟩ = some (.slice A0_v33 n0_v33 c0_v33) := (HX61.out.below hbn HX61.out.lt).cell 0
         have nhq_x0_1 : w4.cell? ⟨w34.heap.size, 1, none⟩ = some (.int .i64 (d_aD.2)) := (HX61.out.below hbn HX61.out.lt).cell 1
         clear hbq hq_aD_0 hq_aD_1 hq_x0_0 hq_x0_1 hbq4
         have hbq := hbn
         have hq_aD_0 := nhq_aD_0
         have hq_aD_1 := nhq_aD_1
         have hq_x0_0 := nhq_x0_0
         have hq_x0_1 := nhq_x0_1
         clear hbn nhq_aD_0 nhq_aD_1 nhq_x0_0 nhq_x0_1))
  obtain ⟨w63, hwq⟩ : ∃ W, Hid (_ = W) := ⟨_, Lib.hid (Eq.refl w4)⟩
  have HS64 : Hid (Below w55.heap.size w55 w63) := Lib.hid (by rw [← hwq.out]; exact hbq)
  have z65 : w55.heap.size ≤ w63.heap.size := HS64.out.size
  try rw [hwq.out]
  clear hbq hsq hwq hoq hq_aD_0 hq_aD_1 hq_x0_0 hq_x0_1
  have HO66 := Lib.hid (HO59.out.below HS64.out (by omega))
  clear HO59
  have HX67 := Lib.hid (HX60.out.below HS64.out HX60.out.lt)
  clear HX60
  have HX68 := Lib.hid (HX61.out.below HS64.out HX61.out.lt)
  clear HX61
  have HB69 : Hid (Below w.heap.size w w63) := Lib.hid (HB62.out.trans (HS64.out.mono (by omega)))
  clear HB62
  clear HS64
  go_wp2
  go_ret
  exact ⟨rfl, HB69.out⟩

set_option maxRecDepth 100000 in
theorem lifted (os : Os) (started : os.Started) (H : Type) (enc : TypeId × Value → H) :
    ReturnsInHanded {} Try.checked os 12 .any (Rows.fnExactChoiceAskSpec.pre6 enc Try.prog Try.f12 Rows.fnExactChoiceAskRow.domain false) (Rows.fnExactChoiceAskSpec.post enc Try.prog Try.f12 false true false false) := by
  refine returnsInHanded_of_change (C := Try.checked) own started (by kernel_rfl) Try.func12
    (ChangeSpec.witness6 (enc := enc) (C := Try.checked) false ⟨#[], #[.agg #[.slice none 0 0, .int .i64 0], .int .i64 0], []⟩ 8 (by kernel_rfl) (by kernel_rfl) (by kernel_rfl) (by kernel_rfl)) ?_
  intro W base args ds gs before hval0 hW hcnd _
  have hval : ∀ (j : Nat) t v, Try.f12.params[j]? = some t → args[j]? = some v → Value.okWide Try.prog W .any base t v := hval0
  have hW' := hW
  obtain ⟨p, q, hA0, hV, rfl, hfz, hnd⟩ := hW
  have hA : DataW.TrodAll enc Try.prog W 0 (fun _ => true) true Try.f12.params.toList args.toList ds p := hA0
  rw [Try.params12] at hA hval
  obtain ⟨v0, vs0, dd0, ds0, p0, q0, hargs, rfl, rfl, h0, r0⟩ := trodAll_cons hA
  obtain ⟨v1, vs1, dd1, ds1, p1, q1, rfl, rfl, rfl, h1, r1⟩ := trodAll_cons r0
  obtain ⟨rfl, rfl, rfl⟩ := trodAll_nil r1
  obtain rfl : args = #[v0, v1] := by cases args; simp_all
  obtain ⟨rfl, rfl⟩ := trodVars_none hV
  obtain ⟨u0_aD, u1_aD, y0_aD, y1_aD, fz_aD, rfl, rfl, rfl, g0_aD, g1_aD⟩ := Go.Joins.open_agg2 Try.underlying50 (by kernel_rfl) (by kernel_rfl) (hval 0 50 v0 rfl rfl) h0
  obtain ⟨A0_aD, n0_aD, c0_aD, d0_aD, rfl, h0_aD⟩ := field_IntS Try.underlying22 Try.underlying3 (by kernel_rfl) g0_aD
  obtain ⟨z1_aD, rfl, _⟩ := field_int Try.underlying3 g1_aD
  obtain ⟨aChoice, rfl, rfl, rfl, w_aChoice⟩ := open_int Try.underlying3 (hval 1 3 v1 rfl rfl) h1
  refine (walk A0_aD n0_aD c0_aD d0_aD z1_aD aChoice W h0_aD w_aChoice).mono fun e W' ⟨he, hb⟩ => ?_
  subst he
  exact ⟨_, rfl, post_law rfl rfl Try.underlying4 (by kernel_rfl) (by kernel_rfl) hW' rfl hb⟩

theorem closed : joinedFacts Try.prog 12 Try.f12 Rows.fnExactChoiceAskSpec Rows.fnExactChoiceAskRow = true := joined_of (by kernel_rfl)
theorem over : Rows.fnExactChoiceAskRow.holds Try.pinned (OpenSpec.ofChange Rows.fnExactChoiceAskSpec) :=
  OpenClaim.holds_of_wide 12 Try.f12 rfl rfl rfl rfl rfl rfl rfl ⟨rfl, rfl, rfl, rfl, rfl⟩ rfl rfl rfl rfl rfl (by kernel_rfl) Try.func12 closed
    (of_decide_eq_true (by kernel_rfl)) (by unfold Func.isWrapper; first | (rw [if_pos (by decide +kernel)]; kernel_rfl) | (rw [if_neg (by decide +kernel)]; exact ⟨rfl, rfl⟩))
    (fun os started H enc _ => lifted os started H enc)
/-- the statement -/
theorem proved : Rows.FnExactChoiceAskSaid :=
  over
end Go.Proofs.Ythfkjaofgpgoeaa.fnExactChoiceAsk
