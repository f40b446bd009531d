/- FnExactPartiesNeed answers true at every input: at each argument the function and its model answer alike, no argument is written, and the answer owns its memory. No condition. -/
import Derived.Test.YtbmjepmlalfpgaaRows
import Derived.Test.YtbmjepmlalfpgaaLaw
import Derived.Test.YtbmjepmlalfpgaaDoor
import Derived.Test.YtbmjepmlalfpgaaMFnExactPartiesNeed
namespace Go.Proofs.Ytbmjepmlalfpgaa.fnExactPartiesNeed
open Go.ChangeShapes Go.WideShapes Go.ChangeAt Go.RowKit
theorem own : ownKnob Try.prog.godebug = none := by kernel_rfl
set_option maxRecDepth 100000 in
set_option maxHeartbeats 4000000 in
theorem walk (z_aC : Int) (A1_aC : Option Addr) (n1_aC c1_aC : Nat) (A2_aC : Option Addr) (n2_aC c2_aC : Nat) (d1_aC : List (Int × Int × Int)) (d2_aC : List Int) (aN : Int) (aBound : Int) (w : World) (h1_aC : RdGateS w w.heap.size (.slice A1_aC n1_aC c1_aC) d1_aC) (h2_aC : RdIntS w w.heap.size (.slice A2_aC n2_aC c2_aC) d2_aC) (_w_aN : (Lit.int .i64 aN).wf = true) (_w_aBound : (Lit.int .i64 aBound).wf = true) :
    Calls Try.prog 12 #[.agg #[.int .i64 z_aC, .slice A1_aC n1_aC c1_aC, .slice A2_aC n2_aC c2_aC], .int .i64 aN, .int .i64 aBound] w fun e w' => e = .returned (.bool true) ∧ Below w.heap.size w w' := by
  obtain ⟨d_aC, hd_aC⟩ : ∃ d, d = (z_aC, d1_aC, d2_aC) := ⟨_, rfl⟩
  have Ha_aC : Hid (RdCircuit w w.heap.size (.agg #[.int .i64 z_aC, .slice A1_aC n1_aC c1_aC, .slice A2_aC n2_aC c2_aC]) d_aC) := Lib.hid (by rw [hd_aC]; exact ⟨_, _, _, _, _, _, rfl, h1_aC, h2_aC⟩)
  clear h1_aC h2_aC hd_aC
  go_enter Try.func12, Try.ntmps12
  obtain ⟨W0, hW0⟩ : ∃ W, Hid ((w.alloc (.cells #[.int .i64 z_aC, .slice A1_aC n1_aC c1_aC, .slice A2_aC n2_aC c2_aC] 46)) = W) := ⟨_, Lib.hid rfl⟩
  have HB_0 : Hid (Below w.heap.size w W0) := Lib.hid (by rw [← hW0.out]; exact (Below.refl _ _).alloc (Nat.le_refl _) _)
  have z_0 : W0.heap.size = w.heap.size + 1 := by rw [← hW0.out]; simp only [World.size_alloc]
  have HX_aC : Hid (Bx W0 (w.heap.size) #[.int .i64 z_aC, .slice A1_aC n1_aC c1_aC, .slice A2_aC n2_aC c2_aC] 46) := Lib.hid (by rw [← hW0.out]; have := Bx.new w #[.int .i64 z_aC, .slice A1_aC n1_aC c1_aC, .slice A2_aC n2_aC c2_aC] 46; exact this)
  go_wp2_with fail
  rw [hW0.out]
  clear hW0
  rcases Int.lt_or_le 1048576 (szCircuit d_aC : Nat) with hl1 | hl1
  · refine (L_szCircuit_no _ _ _ _ _ (RdCircuit.below Ha_aC.out HB_0.out) (by omega) (by omega) (by omega) hl1).mono ?_
    rintro e w' ⟨rfl, hb⟩
    have hb2 := Lib.hid (HB_0.out.trans (hb.mono (by omega)))
    clear hb
    go_wp2
    go_ret
    exact ⟨rfl, hb2.out⟩
  refine (L_szCircuit_ok _ _ _ _ _ (RdCircuit.below Ha_aC.out HB_0.out) (by omega) (by omega) (by omega) hl1).mono ?_
  rintro e w2 ⟨L3, rfl, hx6, h0_4, h1_5, hy7⟩
  have hs_aC : szCircuit d_aC ≤ 1048576 := by omega
  have z8 : W0.heap.size ≤ w2.heap.size := hy7.size
  have HS9 := Lib.hid hy7
  clear hy7
  have HX10 := Lib.hid (HX_aC.out.below HS9.out HX_aC.out.lt)
  clear HX_aC
  have HB11 : Hid (Below w.heap.size w w2) := Lib.hid (HB_0.out.trans (HS9.out.mono (by omega)))
  clear HB_0
  clear HS9
  have fc17 : w2.cell? ⟨w.heap.size, 0, none⟩ = some (.int .i64 z_aC) := HX10.out.cell 0
  have fc18 : w2.cell? ⟨w.heap.size, 1, none⟩ = some (.slice A1_aC n1_aC c1_aC) := HX10.out.cell 1
  have fc19 : w2.cell? ⟨w.heap.size, 2, none⟩ = some (.slice A2_aC n2_aC c2_aC) := HX10.out.cell 2
  go_wp2_with fail
  refine (L_toCircuit _ _ _ _ (RdCircuit.below Ha_aC.out HB11.out) HB11.out.size hs_aC).mono ?_
  rintro e w13 ⟨v12, rfl, hx20, hy21⟩
  have z16 : w2.heap.size ≤ w13.heap.size := hy21.size
  obtain ⟨A1_v12, n1_v12, c1_v12, A2_v12, n2_v12, c2_v12, hv22⟩ : ∃ A1_v12 n1_v12 c1_v12 A2_v12 n2_v12 c2_v12, v12 = .agg #[.int .i64 (d_aC.1), .slice A1_v12 n1_v12 c1_v12, .slice A2_v12 n2_v12 c2_v12] := by obtain ⟨_, _, _, _, _, _, _, _, _, _, _, rfl, _⟩ := hx20; exact ⟨_, _, _, _, _, _, rfl⟩
  subst hv22
  have HO14 := Lib.hid hx20
  have HS15 := Lib.hid hy21
  clear hx20 hy21
  clear fc17 fc18 fc19
  have HX23 := Lib.hid (HX10.out.below HS15.out HX10.out.lt)
  clear HX10
  have HB24 : Hid (Below w.heap.size w w13) := Lib.hid (HB11.out.trans (HS15.out.mono (by omega)))
  clear HB11
  clear HS15
  have fc25 : w13.cell? ⟨w.heap.size, 0, none⟩ = some (.int .i64 z_aC) := HX23.out.cell 0
  have fc26 : w13.cell? ⟨w.heap.size, 1, none⟩ = some (.slice A1_aC n1_aC c1_aC) := HX23.out.cell 1
  have fc27 : w13.cell? ⟨w.heap.size, 2, none⟩ = some (.slice A2_aC n2_aC c2_aC) := HX23.out.cell 2
  go_wp2_with fail
  refine (X_s_PartiesNeed _ d_aC aN aBound _ (HO14.out.rd.more (by omega)) hs_aC).mono ?_
  rintro e w28 ⟨rfl, hy29⟩
  have z30 : w13.heap.size ≤ w28.heap.size := hy29.size
  have HS31 := Lib.hid hy29
  clear hy29
  clear fc25 fc26 fc27
  have HO32 := Lib.hid (HO14.out.below HS31.out (by omega))
  clear HO14
  have HX33 := Lib.hid (HX23.out.below HS31.out HX23.out.lt)
  clear HX23
  have HB34 : Hid (Below w.heap.size w w28) := Lib.hid (HB24.out.trans (HS31.out.mono (by omega)))
  clear HB24
  clear HS31
  clear HO32
  have fc40 : w28.cell? ⟨w.heap.size, 0, none⟩ = some (.int .i64 z_aC) := HX33.out.cell 0
  have fc41 : w28.cell? ⟨w.heap.size, 1, none⟩ = some (.slice A1_aC n1_aC c1_aC) := HX33.out.cell 1
  have fc42 : w28.cell? ⟨w.heap.size, 2, none⟩ = some (.slice A2_aC n2_aC c2_aC) := HX33.out.cell 2
  go_wp2_with fail
  refine (L_toCircuit _ _ _ _ (RdCircuit.below Ha_aC.out HB34.out) HB34.out.size hs_aC).mono ?_
  rintro e w36 ⟨v35, rfl, hx43, hy44⟩
  have z39 : w28.heap.size ≤ w36.heap.size := hy44.size
  obtain ⟨A1_v35, n1_v35, c1_v35, A2_v35, n2_v35, c2_v35, hv45⟩ : ∃ A1_v35 n1_v35 c1_v35 A2_v35 n2_v35 c2_v35, v35 = .agg #[.int .i64 (d_aC.1), .slice A1_v35 n1_v35 c1_v35, .slice A2_v35 n2_v35 c2_v35] := by obtain ⟨_, _, _, _, _, _, _, _, _, _, _, rfl, _⟩ := hx43; exact ⟨_, _, _, _, _, _, rfl⟩
  subst hv45
  have HO37 := Lib.hid hx43
  have HS38 := Lib.hid hy44
  clear hx43 hy44
  clear fc40 fc41 fc42
  have HX46 := Lib.hid (HX33.out.below HS38.out HX33.out.lt)
  clear HX33
  have HB47 : Hid (Below w.heap.size w w36) := Lib.hid (HB34.out.trans (HS38.out.mono (by omega)))
  clear HB34
  clear HS38
  have fc48 : (w36.alloc (.cells #[.int .i64 (d_aC.1), .slice A1_v35 n1_v35 c1_v35, .slice A2_v35 n2_v35 c2_v35] 26)).cell? ⟨w.heap.size, 0, none⟩ = some (.int .i64 z_aC) := (HX46.out.alloc _).cell 0
  have fc49 : (w36.alloc (.cells #[.int .i64 (d_aC.1), .slice A1_v35 n1_v35 c1_v35, .slice A2_v35 n2_v35 c2_v35] 26)).cell? ⟨w.heap.size, 1, none⟩ = some (.slice A1_aC n1_aC c1_aC) := (HX46.out.alloc _).cell 1
  have fc50 : (w36.alloc (.cells #[.int .i64 (d_aC.1), .slice A1_v35 n1_v35 c1_v35, .slice A2_v35 n2_v35 c2_v35] 26)).cell? ⟨w.heap.size, 2, none⟩ = some (.slice A2_aC n2_aC c2_aC) := (HX46.out.alloc _).cell 2
  go_wp2_with fail
  clear fc48 fc49 fc50
  obtain ⟨w51, hW52⟩ : ∃ W, Hid (w36.alloc (.cells #[.int .i64 (d_aC.1), .slice A1_v35 n1_v35 c1_v35, .slice A2_v35 n2_v35 c2_v35] 26) = W) := ⟨_, Lib.hid rfl⟩
  have z53 : w51.heap.size = w36.heap.size + 1 := by rw [← hW52.out, World.size_alloc]
  have HS54 : Hid (Below w36.heap.size w36 w51) := Lib.hid (by rw [← hW52.out]; exact (Below.refl _ _).alloc (Nat.le_refl _) _)
  have HX55 : Hid (Bx w51 w36.heap.size #[.int .i64 (d_aC.1), .slice A1_v35 n1_v35 c1_v35, .slice A2_v35 n2_v35 c2_v35] 26) := Lib.hid (by rw [← hW52.out]; exact Bx.new _ _ _)
  have HO56 := Lib.hid (HO37.out.below HS54.out (by omega))
  clear HO37
  have HX57 := Lib.hid (HX46.out.below HS54.out HX46.out.lt)
  clear HX46
  have HB58 : Hid (Below w.heap.size w w51) := Lib.hid (HB47.out.trans (HS54.out.mono (by omega)))
  clear HB47
  clear HS54
  rw [hW52.out]
  clear hW52
  refine (X_i_PartiesNeed _ d_aC aN aBound _ (HO56.out.rd.more (by omega)) hs_aC).mono ?_
  rintro e w59 ⟨rfl, hy60⟩
  have z61 : w51.heap.size ≤ w59.heap.size := hy60.size
  have HS62 := Lib.hid hy60
  clear hy60
  have HO63 := Lib.hid (HO56.out.below HS62.out (by omega))
  clear HO56
  have HX64 := Lib.hid (HX57.out.below HS62.out HX57.out.lt)
  clear HX57
  have HX65 := Lib.hid (HX55.out.below HS62.out HX55.out.lt)
  clear HX55
  have HB66 : Hid (Below w.heap.size w w59) := Lib.hid (HB58.out.trans (HS62.out.mono (by omega)))
  clear HB58
  clear HS62
  have hq_aC_0 : w59.cell? ⟨w.heap.size, 0, none⟩ = some (.int .i64 z_aC) := HX64.out.cell 0
  have hq_aC_1 : w59.cell? ⟨w.heap.size, 1, none⟩ = some (.slice A1_aC n1_aC c1_aC) := HX64.out.cell 1
  have hq_aC_2 : w59.cell? ⟨w.heap.size, 2, none⟩ = some (.slice A2_aC n2_aC c2_aC) := HX64.out.cell 2
  have hq_x0_0 : w59.cell? ⟨w36.heap.size, 0, none⟩ = some (.int .i64 (d_aC.1)) := HX65.out.cell 0
  have hq_x0_1 : w59.cell? ⟨w36.heap.size, 1, none⟩ = some (.slice A1_v35 n1_v35 c1_v35) := HX65.out.cell 1
  have hq_x0_2 : w59.cell? ⟨w36.heap.size, 2, none⟩ = some (.slice A2_v35 n2_v35 c2_v35) := HX65.out.cell 2
  have hbq := Below.refl w59.heap.size w59
  have hsq := And.intro hbq (And.intro hq_aC_0 (And.intro hq_aC_1 (And.intro hq_aC_2 (And.intro hq_x0_0 (And.intro hq_x0_1 hq_x0_2)))))
  go_wp2
  go_region_held3 (fun w' => Below w59.heap.size w59 w' ∧ w'.cell? ⟨w.heap.size, 0, none⟩ = some (.int .i64 z_aC) ∧ w'.cell? ⟨w.heap.size, 1, none⟩ = some (.slice A1_aC n1_aC c1_aC) ∧ w'.cell? ⟨w.heap.size, 2, none⟩ = some (.slice A2_aC n2_aC c2_aC) ∧ w'.cell? ⟨w36.heap.size, 0, none⟩ = some (.int .i64 (d_aC.1)) ∧ w'.cell? ⟨w36.heap.size, 1, none⟩ = some (.slice A1_v35 n1_v35 c1_v35) ∧ w'.cell? ⟨w36.heap.size, 2, none⟩ = some (.slice A2_v35 n2_v35 c2_v35))
    (first | exact ⟨hbq, hq_aC_0, hq_aC_1, hq_aC_2, hq_x0_0, hq_x0_1, hq_x0_2⟩ | exact ⟨hbq.drew, hq_aC_0, hq_aC_1, hq_aC_2, hq_x0_0, hq_x0_1, hq_x0_2⟩)
    (first
      | (go_at_call 31
         refine (L_toCircuit w.heap.size _ d_aC _ (RdCircuit.below Ha_aC.out (Below.trans HB66.out (Below.mono (by first | exact hbq | exact hbq.drew) (by exact HB66.out.size)))) (by exact Nat.le_trans (HB66.out).size hbq.size) hs_aC).mono ?_
         rintro e w3 ⟨vq, rfl, hoq, hbq3⟩
         obtain ⟨A1_vq, n1_vq, c1_vq, A2_vq, n2_vq, c2_vq, hvq⟩ : ∃ A1_vq n1_vq c1_vq A2_vq n2_vq c2_vq, vq = .agg #[.int .i64 (d_aC.1), .slice A1_vq n1_vq c1_vq, .slice A2_vq n2_vq c2_vq] := by obtain ⟨_, _, _, _, _, _, _, _, _, _, _, rfl, _⟩ := hoq; exact ⟨_, _, _, _, _, _, rfl⟩
         subst hvq
         have hbn : Below w59.heap.size w59 w3 := Below.trans (by first | exact hbq | exact hbq.drew) (hbq3.mono (by exact hbq.size))
         have nhq_aC_0 : w3.cell? ⟨w.heap.size, 0, none⟩ = some (.int .i64 z_aC) := (HX64.out.below hbn HX64.out.lt).cell 0
         have nhq_aC_1 : w3.cell? ⟨w.heap.size, 1, none⟩ = some (.slice A1_aC n1_aC c1_aC) := (HX64.out.below hbn HX64.out.lt).cell 1
         have nhq_aC_2 : w3.cell? ⟨w.heap.size, 2, none⟩ = some (.slice A2_aC n2_aC c2_aC) := (HX64.out.below hbn HX64.out.lt).cell 2
         have nhq_x0_0 : w3.cell? ⟨w36.heap.size, 0, none⟩ = some (.int .i64 (d_aC.1)) := (HX65.out.below hbn HX65.out.lt).cell 0
         have nhq_x0_1 : w3.cell? ⟨w36.heap.size, 1, none⟩ = some (.slice A1_v35 n1_v35 c1_v35) := (HX65.out.below hbn HX65.out.lt).cell 1
         have nhq_x0_2 : w3.cell? ⟨w36.heap.size, 2, none⟩ = some (.slice A2_v35 n2_v35 c2_v35) := (HX65.out.below hbn HX65.out.lt).cell 2
         clear hbq hq_aC_0 hq_aC_1 hq_aC_2 hq_x0_0 hq_x0_1 hq_x0_2 hbq3
         have hbq := hbn
         have hq_aC_0 := nhq_aC_0
         have hq_aC_1 := nhq_aC_1
         have hq_aC_2 := nhq_aC_2
         have hq_x0_0 := nhq_x0_0
         have hq_x0_1 := nhq_x0_1
         have hq_x0_2 := nhq_x0_2
         clear hbn nhq_aC_0 nhq_aC_1 nhq_aC_2 nhq_x0_0 nhq_x0_1 nhq_x0_2)
      | (go_at_call 33
         refine (L_eqCircuit _ _ _ _ d_aC _ (by exact HO63.out.rd.below (hbq.mono (by omega))) (by exact hoq.rd) (by have := hbq.size; omega) (by exact Nat.le_refl _) hs_aC).mono ?_
         rintro e w4 ⟨rfl, hbq4⟩
         have hbn : Below w59.heap.size w59 w4 := Below.trans (by first | exact hbq | exact hbq.drew) (hbq4.mono (by exact hbq.size))
         have nhq_aC_0 : w4.cell? ⟨w.heap.size, 0, none⟩ = some (.int .i64 z_aC) := (HX64.out.below hbn HX64.out.lt).cell 0
         have nhq_aC_1 : w4.cell? ⟨w.heap.size, 1, none⟩ = some (.slice A1_aC n1_aC c1_aC) := (HX64.out.below hbn HX64.out.lt).cell 1
         have nhq_aC_2 : w4.cell? ⟨w.heap.size, 2, none⟩ = some (.slice A2_aC n2_aC c2_aC) := (HX64.out.below hbn HX64.out.lt).cell 2
         have nhq_x0_0 : w4.cell? ⟨w36.heap.size, 0, none⟩ = some (.int .i64 (d_aC.1)) := (HX65.out.below hbn HX65.out.lt).cell 0
         have nhq_x0_1 : w4.cell? ⟨w36.heap.size, 1, none⟩ = some (.slice A1_v35 n1_v35 c1_v35) := (HX65.out.below hbn HX65.out.lt).cell 1
         have nhq_x0_2 : w4.cell? ⟨w36.heap.size, 2, none⟩ = some (.slice A2_v35 n2_v35 c2_v35) := (HX65.out.below hbn HX65.out.lt).cell 2
         clear hbq hq_aC_0 hq_aC_1 hq_aC_2 hq_x0_0 hq_x0_1 hq_x0_2 hbq4
         have hbq := hbn
         have hq_aC_0 := nhq_aC_0
         have hq_aC_1 := nhq_aC_1
         have hq_aC_2 := nhq_aC_2
         have hq_x0_0 := nhq_x0_0
         have hq_x0_1 := nhq_x0_1
         have hq_x0_2 := nhq_x0_2
         clear hbn nhq_aC_0 nhq_aC_1 nhq_aC_2 nhq_x0_0 nhq_x0_1 nhq_x0_2))
  obtain ⟨w67, hwq⟩ : ∃ W, Hid (_ = W) := ⟨_, Lib.hid (Eq.refl w4)⟩
  have HS68 : Hid (Below w59.heap.size w59 w67) := Lib.hid (by rw [← hwq.out]; exact hbq)
  have z69 : w59.heap.size ≤ w67.heap.size := HS68.out.size
  try rw [hwq.out]
  clear hbq hsq hwq hoq hq_aC_0 hq_aC_1 hq_aC_2 hq_x0_0 hq_x0_1 hq_x0_2
  have HO70 := Lib.hid (HO63.out.below HS68.out (by omega))
  clear HO63
  have HX71 := Lib.hid (HX64.out.below HS68.out HX64.out.lt)
  clear HX64
  have HX72 := Lib.hid (HX65.out.below HS68.out HX65.out.lt)
  clear HX65
  have HB73 : Hid (Below w.heap.size w w67) := Lib.hid (HB66.out.trans (HS68.out.mono (by omega)))
  clear HB66
  clear HS68
  go_wp2
  go_ret
  exact ⟨rfl, HB73.out⟩

set_option maxRecDepth 100000 in
theorem lifted (os : Os) (started : os.Started) (H : Type) (enc : TypeId × Value → H) :
    ReturnsInHanded {} Try.checked os 12 .any (Rows.fnExactPartiesNeedSpec.pre6 enc Try.prog Try.f12 Rows.fnExactPartiesNeedRow.domain false) (Rows.fnExactPartiesNeedSpec.post enc Try.prog Try.f12 false true false false) := by
  refine returnsInHanded_of_change (C := Try.checked) own started (by kernel_rfl) Try.func12
    (ChangeSpec.witness6 (enc := enc) (C := Try.checked) false ⟨#[], #[.agg #[.int .i64 0, .slice none 0 0, .slice none 0 0], .int .i64 0, .int .i64 0], []⟩ 8 (by kernel_rfl) (by kernel_rfl) (by kernel_rfl) (by kernel_rfl)) ?_
  intro W base args ds gs before hval0 hW hcnd _
  have hval : ∀ (j : Nat) t v, Try.f12.params[j]? = some t → args[j]? = some v → Value.okWide Try.prog W .any base t v := hval0
  have hW' := hW
  obtain ⟨p, q, hA0, hV, rfl, hfz, hnd⟩ := hW
  have hA : DataW.TrodAll enc Try.prog W 0 (fun _ => true) true Try.f12.params.toList args.toList ds p := hA0
  rw [Try.params12] at hA hval
  obtain ⟨v0, vs0, dd0, ds0, p0, q0, hargs, rfl, rfl, h0, r0⟩ := trodAll_cons hA
  obtain ⟨v1, vs1, dd1, ds1, p1, q1, rfl, rfl, rfl, h1, r1⟩ := trodAll_cons r0
  obtain ⟨v2, vs2, dd2, ds2, p2, q2, rfl, rfl, rfl, h2, r2⟩ := trodAll_cons r1
  obtain ⟨rfl, rfl, rfl⟩ := trodAll_nil r2
  obtain rfl : args = #[v0, v1, v2] := by cases args; simp_all
  obtain ⟨rfl, rfl⟩ := trodVars_none hV
  obtain ⟨u0_aC, u1_aC, u2_aC, y0_aC, y1_aC, y2_aC, fz_aC, rfl, rfl, rfl, g0_aC, g1_aC, g2_aC⟩ := Go.Joins.open_agg3 Try.underlying46 (by kernel_rfl) (by kernel_rfl) (hval 0 46 v0 rfl rfl) h0
  obtain ⟨z_aC, rfl, _⟩ := field_int Try.underlying3 g0_aC
  obtain ⟨A1_aC, n1_aC, c1_aC, d1_aC, rfl, h1_aC⟩ := field_GateS Try.underlying44 Try.underlying135 (by kernel_rfl) rfl rfl rfl (by kernel_rfl) (by kernel_rfl) (by kernel_rfl) Try.underlying3 Try.underlying3 Try.underlying3 g1_aC
  obtain ⟨A2_aC, n2_aC, c2_aC, d2_aC, rfl, h2_aC⟩ := field_IntS Try.underlying24 Try.underlying3 (by kernel_rfl) g2_aC
  obtain ⟨aN, rfl, rfl, rfl, w_aN⟩ := open_int Try.underlying3 (hval 1 3 v1 rfl rfl) h1
  obtain ⟨aBound, rfl, rfl, rfl, w_aBound⟩ := open_int Try.underlying3 (hval 2 3 v2 rfl rfl) h2
  refine (walk z_aC A1_aC n1_aC c1_aC A2_aC n2_aC c2_aC d1_aC d2_aC aN aBound W h1_aC h2_aC w_aN w_aBound).mono fun e W' ⟨he, hb⟩ => ?_
  subst he
  exact ⟨_, rfl, post_law rfl rfl Try.underlying4 (by kernel_rfl) (by kernel_rfl) hW' rfl hb⟩

theorem closed : joinedFacts Try.prog 12 Try.f12 Rows.fnExactPartiesNeedSpec Rows.fnExactPartiesNeedRow = true := joined_of (by kernel_rfl)
theorem over : Rows.fnExactPartiesNeedRow.holds Try.pinned (OpenSpec.ofChange Rows.fnExactPartiesNeedSpec) :=
  OpenClaim.holds_of_wide 12 Try.f12 rfl rfl rfl rfl rfl rfl rfl ⟨rfl, rfl, rfl, rfl, rfl⟩ rfl rfl rfl rfl rfl (by kernel_rfl) Try.func12 closed
    (of_decide_eq_true (by kernel_rfl)) (by unfold Func.isWrapper; first | (rw [if_pos (by decide +kernel)]; kernel_rfl) | (rw [if_neg (by decide +kernel)]; exact ⟨rfl, rfl⟩))
    (fun os started H enc _ => lifted os started H enc)
/-- the statement -/
theorem proved : Rows.FnExactPartiesNeedSaid :=
  over
end Go.Proofs.Ytbmjepmlalfpgaa.fnExactPartiesNeed
