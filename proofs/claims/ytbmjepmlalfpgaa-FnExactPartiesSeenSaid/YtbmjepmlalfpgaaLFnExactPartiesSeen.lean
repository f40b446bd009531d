/- FnExactPartiesSeen answers true at every input: at each argument the function and its model answer alike, no argument is written, and the answer owns its memory. No condition. -/
import Derived.Test.YtbmjepmlalfpgaaRows
import Derived.Test.YtbmjepmlalfpgaaLaw
import Derived.Test.YtbmjepmlalfpgaaDoor
import Derived.Test.YtbmjepmlalfpgaaMFnExactPartiesSeen
namespace Go.Proofs.Ytbmjepmlalfpgaa.fnExactPartiesSeen
open Go.ChangeShapes Go.WideShapes Go.ChangeAt Go.RowKit
theorem own : ownKnob Try.prog.godebug = none := by kernel_rfl
set_option maxRecDepth 100000 in
set_option maxHeartbeats 4000000 in
theorem walk (A1_aR : Option Addr) (n1_aR c1_aR : Nat) (A2_aR : Option Addr) (n2_aR c2_aR : Nat) (d1_aR : List (List (Int × Int))) (d2_aR : List Int) (aParty : Int) (w : World) (h1_aR : RdPointSS w w.heap.size (.slice A1_aR n1_aR c1_aR) d1_aR) (h2_aR : RdIntS w w.heap.size (.slice A2_aR n2_aR c2_aR) d2_aR) (_w_aParty : (Lit.int .i64 aParty).wf = true) :
    Calls Try.prog 14 #[.agg #[.slice A1_aR n1_aR c1_aR, .slice A2_aR n2_aR c2_aR], .int .i64 aParty] w fun e w' => e = .returned (.bool true) ∧ Below w.heap.size w w' := by
  obtain ⟨d_aR, hd_aR⟩ : ∃ d, d = (d1_aR, d2_aR) := ⟨_, rfl⟩
  have Ha_aR : Hid (RdRun w w.heap.size (.agg #[.slice A1_aR n1_aR c1_aR, .slice A2_aR n2_aR c2_aR]) d_aR) := Lib.hid (by rw [hd_aR]; exact ⟨_, _, _, _, _, _, rfl, h1_aR, h2_aR⟩)
  clear h1_aR h2_aR hd_aR
  go_enter Try.func14, Try.ntmps14
  obtain ⟨W0, hW0⟩ : ∃ W, Hid ((w.alloc (.cells #[.slice A1_aR n1_aR c1_aR, .slice A2_aR n2_aR c2_aR] 68)) = W) := ⟨_, Lib.hid rfl⟩
  have HB_0 : Hid (Below w.heap.size w W0) := Lib.hid (by rw [← hW0.out]; exact (Below.refl _ _).alloc (Nat.le_refl _) _)
  have z_0 : W0.heap.size = w.heap.size + 1 := by rw [← hW0.out]; simp only [World.size_alloc]
  have HX_aR : Hid (Bx W0 (w.heap.size) #[.slice A1_aR n1_aR c1_aR, .slice A2_aR n2_aR c2_aR] 68) := Lib.hid (by rw [← hW0.out]; have := Bx.new w #[.slice A1_aR n1_aR c1_aR, .slice A2_aR n2_aR c2_aR] 68; exact this)
  go_wp2_with fail
  rw [hW0.out]
  clear hW0
  rcases Int.lt_or_le 1048576 (szRun d_aR : Nat) with hl1 | hl1
  · refine (L_szRun_no _ _ _ _ _ (RdRun.below Ha_aR.out HB_0.out) (by omega) (by omega) (by omega) hl1).mono ?_
    rintro e w' ⟨rfl, hb⟩
    have hb2 := Lib.hid (HB_0.out.trans (hb.mono (by omega)))
    clear hb
    go_wp2
    go_ret
    exact ⟨rfl, hb2.out⟩
  refine (L_szRun_ok _ _ _ _ _ (RdRun.below Ha_aR.out HB_0.out) (by omega) (by omega) (by omega) hl1).mono ?_
  rintro e w2 ⟨L3, rfl, hx6, h0_4, h1_5, hy7⟩
  have hs_aR : szRun d_aR ≤ 1048576 := by omega
  have z8 : W0.heap.size ≤ w2.heap.size := hy7.size
  have HS9 := Lib.hid hy7
  clear hy7
  have HX10 := Lib.hid (HX_aR.out.below HS9.out HX_aR.out.lt)
  clear HX_aR
  have HB11 : Hid (Below w.heap.size w w2) := Lib.hid (HB_0.out.trans (HS9.out.mono (by omega)))
  clear HB_0
  clear HS9
  have fc17 : w2.cell? ⟨w.heap.size, 0, none⟩ = some (.slice A1_aR n1_aR c1_aR) := HX10.out.cell 0
  have fc18 : w2.cell? ⟨w.heap.size, 1, none⟩ = some (.slice A2_aR n2_aR c2_aR) := HX10.out.cell 1
  go_wp2_with fail
  refine (L_toRun _ _ _ _ (RdRun.below Ha_aR.out HB11.out) HB11.out.size hs_aR).mono ?_
  rintro e w13 ⟨v12, rfl, hx19, hy20⟩
  have z16 : w2.heap.size ≤ w13.heap.size := hy20.size
  obtain ⟨A0_v12, n0_v12, c0_v12, A1_v12, n1_v12, c1_v12, hv21⟩ : ∃ A0_v12 n0_v12 c0_v12 A1_v12 n1_v12 c1_v12, v12 = .agg #[.slice A0_v12 n0_v12 c0_v12, .slice A1_v12 n1_v12 c1_v12] := by obtain ⟨_, _, _, _, _, _, _, _, _, _, _, rfl, _⟩ := hx19; exact ⟨_, _, _, _, _, _, rfl⟩
  subst hv21
  have HO14 := Lib.hid hx19
  have HS15 := Lib.hid hy20
  clear hx19 hy20
  clear fc17 fc18
  have HX22 := Lib.hid (HX10.out.below HS15.out HX10.out.lt)
  clear HX10
  have HB23 : Hid (Below w.heap.size w w13) := Lib.hid (HB11.out.trans (HS15.out.mono (by omega)))
  clear HB11
  clear HS15
  have fc24 : w13.cell? ⟨w.heap.size, 0, none⟩ = some (.slice A1_aR n1_aR c1_aR) := HX22.out.cell 0
  have fc25 : w13.cell? ⟨w.heap.size, 1, none⟩ = some (.slice A2_aR n2_aR c2_aR) := HX22.out.cell 1
  go_wp2_with fail
  refine (X_s_PartiesSeen _ d_aR aParty _ (HO14.out.rd.more (by omega)) hs_aR).mono ?_
  rintro e w26 ⟨w0_w26, rfl, hx27, hy28⟩
  have z29 : w13.heap.size ≤ w26.heap.size := hy28.size
  have HO30 := Lib.hid hx27
  clear hx27
  have HS31 := Lib.hid hy28
  clear hy28
  clear fc24 fc25
  have HO32 := Lib.hid (HO14.out.below HS31.out (by omega))
  clear HO14
  have HX33 := Lib.hid (HX22.out.below HS31.out HX22.out.lt)
  clear HX22
  have HB34 : Hid (Below w.heap.size w w26) := Lib.hid (HB23.out.trans (HS31.out.mono (by omega)))
  clear HB23
  clear HS31
  clear HO32
  have fc40 : w26.cell? ⟨w.heap.size, 0, none⟩ = some (.slice A1_aR n1_aR c1_aR) := HX33.out.cell 0
  have fc41 : w26.cell? ⟨w.heap.size, 1, none⟩ = some (.slice A2_aR n2_aR c2_aR) := HX33.out.cell 1
  go_wp2_with fail
  refine (L_toRun _ _ _ _ (RdRun.below Ha_aR.out HB34.out) HB34.out.size hs_aR).mono ?_
  rintro e w36 ⟨v35, rfl, hx42, hy43⟩
  have z39 : w26.heap.size ≤ w36.heap.size := hy43.size
  obtain ⟨A0_v35, n0_v35, c0_v35, A1_v35, n1_v35, c1_v35, hv44⟩ : ∃ A0_v35 n0_v35 c0_v35 A1_v35 n1_v35 c1_v35, v35 = .agg #[.slice A0_v35 n0_v35 c0_v35, .slice A1_v35 n1_v35 c1_v35] := by obtain ⟨_, _, _, _, _, _, _, _, _, _, _, rfl, _⟩ := hx42; exact ⟨_, _, _, _, _, _, rfl⟩
  subst hv44
  have HO37 := Lib.hid hx42
  have HS38 := Lib.hid hy43
  clear hx42 hy43
  clear fc40 fc41
  have HO45 := Lib.hid (HO30.out.below HS38.out (by omega))
  clear HO30
  have HX46 := Lib.hid (HX33.out.below HS38.out HX33.out.lt)
  clear HX33
  have HB47 : Hid (Below w.heap.size w w36) := Lib.hid (HB34.out.trans (HS38.out.mono (by omega)))
  clear HB34
  clear HS38
  have fc48 : (w36.alloc (.cells #[.slice A0_v35 n0_v35 c0_v35, .slice A1_v35 n1_v35 c1_v35] 73)).cell? ⟨w.heap.size, 0, none⟩ = some (.slice A1_aR n1_aR c1_aR) := (HX46.out.alloc _).cell 0
  have fc49 : (w36.alloc (.cells #[.slice A0_v35 n0_v35 c0_v35, .slice A1_v35 n1_v35 c1_v35] 73)).cell? ⟨w.heap.size, 1, none⟩ = some (.slice A2_aR n2_aR c2_aR) := (HX46.out.alloc _).cell 1
  go_wp2_with fail
  clear fc48 fc49
  obtain ⟨w50, hW51⟩ : ∃ W, Hid (w36.alloc (.cells #[.slice A0_v35 n0_v35 c0_v35, .slice A1_v35 n1_v35 c1_v35] 73) = W) := ⟨_, Lib.hid rfl⟩
  have z52 : w50.heap.size = w36.heap.size + 1 := by rw [← hW51.out, World.size_alloc]
  have HS53 : Hid (Below w36.heap.size w36 w50) := Lib.hid (by rw [← hW51.out]; exact (Below.refl _ _).alloc (Nat.le_refl _) _)
  have HX54 : Hid (Bx w50 w36.heap.size #[.slice A0_v35 n0_v35 c0_v35, .slice A1_v35 n1_v35 c1_v35] 73) := Lib.hid (by rw [← hW51.out]; exact Bx.new _ _ _)
  have HO55 := Lib.hid (HO45.out.below HS53.out (by omega))
  clear HO45
  have HO56 := Lib.hid (HO37.out.below HS53.out (by omega))
  clear HO37
  have HX57 := Lib.hid (HX46.out.below HS53.out HX46.out.lt)
  clear HX46
  have HB58 : Hid (Below w.heap.size w w50) := Lib.hid (HB47.out.trans (HS53.out.mono (by omega)))
  clear HB47
  clear HS53
  rw [hW51.out]
  clear hW51
  refine (X_i_PartiesSeen _ d_aR aParty _ (HO56.out.rd.more (by omega)) hs_aR).mono ?_
  rintro e w59 ⟨g0_w59, rfl, hx60, hy61⟩
  have z62 : w50.heap.size ≤ w59.heap.size := hy61.size
  have HO63 := Lib.hid hx60
  clear hx60
  have HS64 := Lib.hid hy61
  clear hy61
  have HO65 := Lib.hid (HO55.out.below HS64.out (by omega))
  clear HO55
  have HO66 := Lib.hid (HO56.out.below HS64.out (by omega))
  clear HO56
  have HX67 := Lib.hid (HX57.out.below HS64.out HX57.out.lt)
  clear HX57
  have HX68 := Lib.hid (HX54.out.below HS64.out HX54.out.lt)
  clear HX54
  have HB69 : Hid (Below w.heap.size w w59) := Lib.hid (HB58.out.trans (HS64.out.mono (by omega)))
  clear HB58
  clear HS64
  have fc72 : w59.cell? ⟨w.heap.size, 0, none⟩ = some (.slice A1_aR n1_aR c1_aR) := HX67.out.cell 0
  have fc73 : w59.cell? ⟨w.heap.size, 1, none⟩ = some (.slice A2_aR n2_aR c2_aR) := HX67.out.cell 1
  have fc74 : w59.cell? ⟨w36.heap.size, 0, none⟩ = some (.slice A0_v35 n0_v35 c0_v35) := HX68.out.cell 0
  have fc75 : w59.cell? ⟨w36.heap.size, 1, none⟩ = some (.slice A1_v35 n1_v35 c1_v35) := HX68.out.cell 1
  go_wp2_with fail
  refine (L_eqIntS _ _ _ _ _ _ HO63.out.rd HO65.out.rd (by omega) (by omega) HO63.out.small).mono ?_
  rintro e w70 ⟨rfl, hx71⟩
  have z76 : w59.heap.size ≤ w70.heap.size := hx71.size
  have HS77 := Lib.hid hx71
  clear hx71
  clear fc72 fc73 fc74 fc75
  have HO78 := Lib.hid (HO65.out.below HS77.out (by omega))
  clear HO65
  have HO79 := Lib.hid (HO66.out.below HS77.out (by omega))
  clear HO66
  have HO80 := Lib.hid (HO63.out.below HS77.out (by omega))
  clear HO63
  have HX81 := Lib.hid (HX67.out.below HS77.out HX67.out.lt)
  clear HX67
  have HX82 := Lib.hid (HX68.out.below HS77.out HX68.out.lt)
  clear HX68
  have HB83 : Hid (Below w.heap.size w w70) := Lib.hid (HB69.out.trans (HS77.out.mono (by omega)))
  clear HB69
  clear HS77
  have hq_aR_0 : w70.cell? ⟨w.heap.size, 0, none⟩ = some (.slice A1_aR n1_aR c1_aR) := HX81.out.cell 0
  have hq_aR_1 : w70.cell? ⟨w.heap.size, 1, none⟩ = some (.slice A2_aR n2_aR c2_aR) := HX81.out.cell 1
  have hq_x0_0 : w70.cell? ⟨w36.heap.size, 0, none⟩ = some (.slice A0_v35 n0_v35 c0_v35) := HX82.out.cell 0
  have hq_x0_1 : w70.cell? ⟨w36.heap.size, 1, none⟩ = some (.slice A1_v35 n1_v35 c1_v35) := HX82.out.cell 1
  have hbq := Below.refl w70.heap.size w70
  have hsq := And.intro hbq (And.intro hq_aR_0 (And.intro hq_aR_1 (And.intro hq_x0_0 hq_x0_1)))
  go_wp2
  go_region_held3 (fun w' => Below w70.heap.size w70 w' ∧ w'.cell? ⟨w.heap.size, 0, none⟩ = some (.slice A1_aR n1_aR c1_aR) ∧ w'.cell? ⟨w.heap.size, 1, none⟩ = some (.slice A2_aR n2_aR c2_aR) ∧ w'.cell? ⟨w36.heap.size, 0, none⟩ = some (.slice A0_v35 n0_v35 c0_v35) ∧ w'.cell? ⟨w36.heap.size, 1, none⟩ = some (.slice A1_v35 n1_v35 c1_v35))
    (first | exact ⟨hbq, hq_aR_0, hq_aR_1, hq_x0_0, hq_x0_1⟩ | exact ⟨hbq.drew, hq_aR_0, hq_aR_1, hq_x0_0, hq_x0_1⟩)
    (first
      | (go_at_call 51
         refine (L_toRun w.heap.size _ d_aR _ (RdRun.below Ha_aR.out (Below.trans HB83.out (Below.mono (by first | exact hbq | exact hbq.drew) (by exact HB83.out.size)))) (by exact Nat.le_trans (HB83.out).size hbq.size) hs_aR).mono ?_
         rintro e w3 ⟨vq, rfl, hoq, hbq3⟩
         obtain ⟨A0_vq, n0_vq, c0_vq, A1_vq, n1_vq, c1_vq, hvq⟩ : ∃ A0_vq n0_vq c0_vq A1_vq n1_vq c1_vq, vq = .agg #[.slice A0_vq n0_vq c0_vq, .slice A1_vq n1_vq c1_vq] := by obtain ⟨_, _, _, _, _, _, _, _, _, _, _, rfl, _⟩ := hoq; exact ⟨_, _, _, _, _, _, rfl⟩
         subst hvq
         have hbn : Below w70.heap.size w70 w3 := Below.trans (by first | exact hbq | exact hbq.drew) (hbq3.mono (by exact hbq.size))
         have nhq_aR_0 : w3.cell? ⟨w.heap.size, 0, none⟩ = some (.slice A1_aR n1_aR c1_aR) := (HX81.out.below hbn HX81.out.lt).cell 0
         have nhq_aR_1 : w3.cell? ⟨w.heap.size, 1, none⟩ = some (.slice A2_aR n2_aR c2_aR) := (HX81.out.below hbn HX81.out.lt).cell 1
         have nhq_x0_0 : w3.cell? ⟨w36.heap.size, 0, none⟩ = some (.slice A0_v35 n0_v35 c0_v35) := (HX82.out.below hbn HX82.out.lt).cell 0
         have nhq_x0_1 : w3.cell? ⟨w36.heap.size, 1, none⟩ = some (.slice A1_v35 n1_v35 c1_v35) := (HX82.out.below hbn HX82.out.lt).cell 1
         clear hbq hq_aR_0 hq_aR_1 hq_x0_0 hq_x0_1 hbq3
         have hbq := hbn
         have hq_aR_0 := nhq_aR_0
         have hq_aR_1 := nhq_aR_1
         have hq_x0_0 := nhq_x0_0
         have hq_x0_1 := nhq_x0_1
         clear hbn nhq_aR_0 nhq_aR_1 nhq_x0_0 nhq_x0_1)
      | (go_at_call 53
         refine (L_eqRun _ _ _ _ d_aR _ (by exact HO79.out.rd.below (hbq.mono (by omega))) (by exact hoq.rd) (by have := hbq.size; omega) (by exact Nat.le_refl _) hs_aR).mono ?_
         rintro e w4 ⟨rfl, hbq4⟩
         have hbn : Below w70.heap.size w70 w4 := Below.trans (by first | exact hbq | exact hbq.drew) (hbq4.mono (by exact hbq.size))
         have nhq_aR_0 : w4.cell? ⟨w.heap.size, 0, none⟩ = some (.slice A1_aR n1_aR c1_aR) := (HX81.out.below hbn HX81.out.lt).cell 0
         have nhq_aR_1 : w4.cell? ⟨w.heap.size, 1, none⟩ = some (.slice A2_aR n2_aR c2_aR) := (HX81.out.below hbn HX81.out.lt).cell 1
         have nhq_x0_0 : w4.cell? ⟨w36.heap.size, 0, none⟩ = some (.slice A0_v35 n0_v35 c0_v35) := (HX82.out.below hbn HX82.out.lt).cell 0
         have nhq_x0_1 : w4.cell? ⟨w36.heap.size, 1, none⟩ = some (.slice A1_v35 n1_v35 c1_v35) := (HX82.out.below hbn HX82.out.lt).cell 1
         clear hbq hq_aR_0 hq_aR_1 hq_x0_0 hq_x0_1 hbq4
         have hbq := hbn
         have hq_aR_0 := nhq_aR_0
         have hq_aR_1 := nhq_aR_1
         have hq_x0_0 := nhq_x0_0
         have hq_x0_1 := nhq_x0_1
         clear hbn nhq_aR_0 nhq_aR_1 nhq_x0_0 nhq_x0_1))
  obtain ⟨w84, hwq⟩ : ∃ W, Hid (_ = W) := ⟨_, Lib.hid (Eq.refl w4)⟩
  have HS85 : Hid (Below w70.heap.size w70 w84) := Lib.hid (by rw [← hwq.out]; exact hbq)
  have z86 : w70.heap.size ≤ w84.heap.size := HS85.out.size
  try rw [hwq.out]
  clear hbq hsq hwq hoq hq_aR_0 hq_aR_1 hq_x0_0 hq_x0_1
  have HO87 := Lib.hid (HO78.out.below HS85.out (by omega))
  clear HO78
  have HO88 := Lib.hid (HO79.out.below HS85.out (by omega))
  clear HO79
  have HO89 := Lib.hid (HO80.out.below HS85.out (by omega))
  clear HO80
  have HX90 := Lib.hid (HX81.out.below HS85.out HX81.out.lt)
  clear HX81
  have HX91 := Lib.hid (HX82.out.below HS85.out HX82.out.lt)
  clear HX82
  have HB92 : Hid (Below w.heap.size w w84) := Lib.hid (HB83.out.trans (HS85.out.mono (by omega)))
  clear HB83
  clear HS85
  have fc101 : w84.cell? ⟨w.heap.size, 0, none⟩ = some (.slice A1_aR n1_aR c1_aR) := HX90.out.cell 0
  have fc102 : w84.cell? ⟨w.heap.size, 1, none⟩ = some (.slice A2_aR n2_aR c2_aR) := HX90.out.cell 1
  have fc103 : w84.cell? ⟨w36.heap.size, 0, none⟩ = some (.slice A0_v35 n0_v35 c0_v35) := HX91.out.cell 0
  have fc104 : w84.cell? ⟨w36.heap.size, 1, none⟩ = some (.slice A1_v35 n1_v35 c1_v35) := HX91.out.cell 1
  go_wp2_with fail
  refine (L_markRun _ _ _ _ _ _ HO88.out (by omega) (by omega) (by omega)).mono ?_
  rintro e w93 ⟨K94, rfl, hk95, h0_96, h1_97, hx98, hy99⟩
  have z100 : w84.heap.size ≤ w93.heap.size := hy99.size
  have HO105 := Lib.hid hx98
  have HS106 := Lib.hid hy99
  clear hx98 hy99
  clear fc101 fc102 fc103 fc104
  have HO107 := Lib.hid (HO87.out.kept HS106.out (by omega) (by omega))
  clear HO87
  have HO108 := Lib.hid (HO89.out.kept HS106.out (by omega) (by omega))
  clear HO89
  have HX109 := Lib.hid (HX90.out.kept HS106.out (by omega))
  clear HX90
  have HX110 := Lib.hid (HX91.out.kept HS106.out (by omega))
  clear HX91
  have HB111 : Hid (Below w.heap.size w w93) := Lib.hid (HB92.out.trans ((HS106.out.to_below (by omega)).mono (by omega)))
  clear HB92
  clear HS106 HO88
  clear HO105
  have fc114 : w93.cell? ⟨w.heap.size, 0, none⟩ = some (.slice A1_aR n1_aR c1_aR) := HX109.out.cell 0
  have fc115 : w93.cell? ⟨w.heap.size, 1, none⟩ = some (.slice A2_aR n2_aR c2_aR) := HX109.out.cell 1
  have fc116 : w93.cell? ⟨w36.heap.size, 0, none⟩ = some (.slice A0_v35 n0_v35 c0_v35) := HX110.out.cell 0
  have fc117 : w93.cell? ⟨w36.heap.size, 1, none⟩ = some (.slice A1_v35 n1_v35 c1_v35) := HX110.out.cell 1
  go_wp2_with fail
  refine (L_eqIntS _ _ _ _ _ _ HO108.out.rd HO107.out.rd (by omega) (by omega) HO108.out.small).mono ?_
  rintro e w112 ⟨rfl, hx113⟩
  have z118 : w93.heap.size ≤ w112.heap.size := hx113.size
  have HS119 := Lib.hid hx113
  clear hx113
  clear fc114 fc115 fc116 fc117
  have HO120 := Lib.hid (HO107.out.below HS119.out (by omega))
  clear HO107
  have HO121 := Lib.hid (HO108.out.below HS119.out (by omega))
  clear HO108
  have HX122 := Lib.hid (HX109.out.below HS119.out HX109.out.lt)
  clear HX109
  have HX123 := Lib.hid (HX110.out.below HS119.out HX110.out.lt)
  clear HX110
  have HB124 : Hid (Below w.heap.size w w112) := Lib.hid (HB111.out.trans (HS119.out.mono (by omega)))
  clear HB111
  clear HS119
  have hs125 := HO121.out.small
  have fc134 : w112.cell? ⟨w.heap.size, 0, none⟩ = some (.slice A1_aR n1_aR c1_aR) := HX122.out.cell 0
  have fc135 : w112.cell? ⟨w.heap.size, 1, none⟩ = some (.slice A2_aR n2_aR c2_aR) := HX122.out.cell 1
  have fc136 : w112.cell? ⟨w36.heap.size, 0, none⟩ = some (.slice A0_v35 n0_v35 c0_v35) := HX123.out.cell 0
  have fc137 : w112.cell? ⟨w36.heap.size, 1, none⟩ = some (.slice A1_v35 n1_v35 c1_v35) := HX123.out.cell 1
  go_wp2_with fail
  refine (L_markIntS _ _ _ _ _ _ HO121.out (by omega) (by omega) (by omega)).mono ?_
  rintro e w126 ⟨K127, rfl, hk128, h0_129, h1_130, hx131, hy132⟩
  have z133 : w112.heap.size ≤ w126.heap.size := hy132.size
  have HO138 := Lib.hid hx131
  have HS139 := Lib.hid hy132
  clear hx131 hy132
  clear fc134 fc135 fc136 fc137
  have HO140 := Lib.hid (HO120.out.kept HS139.out (by omega) (by omega))
  clear HO120
  have HX141 := Lib.hid (HX122.out.kept HS139.out (by omega))
  clear HX122
  have HX142 := Lib.hid (HX123.out.kept HS139.out (by omega))
  clear HX123
  have HB143 : Hid (Below w.heap.size w w126) := Lib.hid (HB124.out.trans ((HS139.out.to_below (by omega)).mono (by omega)))
  clear HB124
  clear HS139 HO121
  have fc150 : w126.cell? ⟨w.heap.size, 0, none⟩ = some (.slice A1_aR n1_aR c1_aR) := HX141.out.cell 0
  have fc151 : w126.cell? ⟨w.heap.size, 1, none⟩ = some (.slice A2_aR n2_aR c2_aR) := HX141.out.cell 1
  have fc152 : w126.cell? ⟨w36.heap.size, 0, none⟩ = some (.slice A0_v35 n0_v35 c0_v35) := HX142.out.cell 0
  have fc153 : w126.cell? ⟨w36.heap.size, 1, none⟩ = some (.slice A1_v35 n1_v35 c1_v35) := HX142.out.cell 1
  go_wp2_with fail
  refine (L_heldIntS _ _ (R_PartiesSeen_0 d_aR aParty) 1 _ _ HO138.out.rd (by omega) hs125 (Lib.hid rfl) (by omega) (by omega)).mono ?_
  rintro e w144 ⟨K145, rfl, hk146, h0_147, h1_148, hx149⟩
  have z154 : w126.heap.size ≤ w144.heap.size := hx149.size
  have HS155 := Lib.hid hx149
  clear hx149
  have HE156 : Hid (K145 = K127) := Lib.hid (by rw [hk146.out, hk128.out])
  have hne157 : (K145 != K127) = false := by rw [HE156.out]; simp
  clear fc150 fc151 fc152 fc153
  have HO158 := Lib.hid (HO140.out.below HS155.out (by omega))
  clear HO140
  have HO159 := Lib.hid (HO138.out.below HS155.out (by omega))
  clear HO138
  have HX160 := Lib.hid (HX141.out.below HS155.out HX141.out.lt)
  clear HX141
  have HX161 := Lib.hid (HX142.out.below HS155.out HX142.out.lt)
  clear HX142
  have HB162 : Hid (Below w.heap.size w w144) := Lib.hid (HB143.out.trans (HS155.out.mono (by omega)))
  clear HB143
  clear HS155
  have fc168 : w144.cell? ⟨w.heap.size, 0, none⟩ = some (.slice A1_aR n1_aR c1_aR) := HX160.out.cell 0
  have fc169 : w144.cell? ⟨w.heap.size, 1, none⟩ = some (.slice A2_aR n2_aR c2_aR) := HX160.out.cell 1
  have fc170 : w144.cell? ⟨w36.heap.size, 0, none⟩ = some (.slice A0_v35 n0_v35 c0_v35) := HX161.out.cell 0
  have fc171 : w144.cell? ⟨w36.heap.size, 1, none⟩ = some (.slice A1_v35 n1_v35 c1_v35) := HX161.out.cell 1
  go_wp2_with fail
  refine (L_toRun _ _ _ _ (RdRun.below Ha_aR.out HB162.out) HB162.out.size hs_aR).mono ?_
  rintro e w164 ⟨v163, rfl, hx172, hy173⟩
  have z167 : w144.heap.size ≤ w164.heap.size := hy173.size
  obtain ⟨A0_v163, n0_v163, c0_v163, A1_v163, n1_v163, c1_v163, hv174⟩ : ∃ A0_v163 n0_v163 c0_v163 A1_v163 n1_v163 c1_v163, v163 = .agg #[.slice A0_v163 n0_v163 c0_v163, .slice A1_v163 n1_v163 c1_v163] := by obtain ⟨_, _, _, _, _, _, _, _, _, _, _, rfl, _⟩ := hx172; exact ⟨_, _, _, _, _, _, rfl⟩
  subst hv174
  have HO165 := Lib.hid hx172
  have HS166 := Lib.hid hy173
  clear hx172 hy173
  clear fc168 fc169 fc170 fc171
  have HO175 := Lib.hid (HO158.out.below HS166.out (by omega))
  clear HO158
  have HO176 := Lib.hid (HO159.out.below HS166.out (by omega))
  clear HO159
  have HX177 := Lib.hid (HX160.out.below HS166.out HX160.out.lt)
  clear HX160
  have HX178 := Lib.hid (HX161.out.below HS166.out HX161.out.lt)
  clear HX161
  have HB179 : Hid (Below w.heap.size w w164) := Lib.hid (HB162.out.trans (HS166.out.mono (by omega)))
  clear HB162
  clear HS166
  have fc180 : w164.cell? ⟨w.heap.size, 0, none⟩ = some (.slice A1_aR n1_aR c1_aR) := HX177.out.cell 0
  have fc181 : w164.cell? ⟨w.heap.size, 1, none⟩ = some (.slice A2_aR n2_aR c2_aR) := HX177.out.cell 1
  have fc182 : w164.cell? ⟨w36.heap.size, 0, none⟩ = some (.slice A0_v35 n0_v35 c0_v35) := HX178.out.cell 0
  have fc183 : w164.cell? ⟨w36.heap.size, 1, none⟩ = some (.slice A1_v35 n1_v35 c1_v35) := HX178.out.cell 1
  go_wp2_with fail
  refine (X_i_PartiesSeen _ d_aR aParty _ (HO165.out.rd.more (by omega)) hs_aR).mono ?_
  rintro e w184 ⟨h0_w184, rfl, hx185, hy186⟩
  have z187 : w164.heap.size ≤ w184.heap.size := hy186.size
  have HO188 := Lib.hid hx185
  clear hx185
  have HS189 := Lib.hid hy186
  clear hy186
  clear fc180 fc181 fc182 fc183
  have HO190 := Lib.hid (HO175.out.below HS189.out (by omega))
  clear HO175
  have HO191 := Lib.hid (HO176.out.below HS189.out (by omega))
  clear HO176
  have HO192 := Lib.hid (HO165.out.below HS189.out (by omega))
  clear HO165
  have HX193 := Lib.hid (HX177.out.below HS189.out HX177.out.lt)
  clear HX177
  have HX194 := Lib.hid (HX178.out.below HS189.out HX178.out.lt)
  clear HX178
  have HB195 : Hid (Below w.heap.size w w184) := Lib.hid (HB179.out.trans (HS189.out.mono (by omega)))
  clear HB179
  clear HS189
  clear HO192
  have fc198 : w184.cell? ⟨w.heap.size, 0, none⟩ = some (.slice A1_aR n1_aR c1_aR) := HX193.out.cell 0
  have fc199 : w184.cell? ⟨w.heap.size, 1, none⟩ = some (.slice A2_aR n2_aR c2_aR) := HX193.out.cell 1
  have fc200 : w184.cell? ⟨w36.heap.size, 0, none⟩ = some (.slice A0_v35 n0_v35 c0_v35) := HX194.out.cell 0
  have fc201 : w184.cell? ⟨w36.heap.size, 1, none⟩ = some (.slice A1_v35 n1_v35 c1_v35) := HX194.out.cell 1
  go_wp2_with fail
  refine (L_eqIntS _ _ _ _ _ _ HO188.out.rd HO190.out.rd (by omega) (by omega) HO188.out.small).mono ?_
  rintro e w196 ⟨rfl, hx197⟩
  have z202 : w184.heap.size ≤ w196.heap.size := hx197.size
  have HS203 := Lib.hid hx197
  clear hx197
  clear fc198 fc199 fc200 fc201
  have HO204 := Lib.hid (HO190.out.below HS203.out (by omega))
  clear HO190
  have HO205 := Lib.hid (HO191.out.below HS203.out (by omega))
  clear HO191
  have HO206 := Lib.hid (HO188.out.below HS203.out (by omega))
  clear HO188
  have HX207 := Lib.hid (HX193.out.below HS203.out HX193.out.lt)
  clear HX193
  have HX208 := Lib.hid (HX194.out.below HS203.out HX194.out.lt)
  clear HX194
  have HB209 : Hid (Below w.heap.size w w196) := Lib.hid (HB195.out.trans (HS203.out.mono (by omega)))
  clear HB195
  clear HS203
  have fc216 : w196.cell? ⟨w.heap.size, 0, none⟩ = some (.slice A1_aR n1_aR c1_aR) := HX207.out.cell 0
  have fc217 : w196.cell? ⟨w.heap.size, 1, none⟩ = some (.slice A2_aR n2_aR c2_aR) := HX207.out.cell 1
  have fc218 : w196.cell? ⟨w36.heap.size, 0, none⟩ = some (.slice A0_v35 n0_v35 c0_v35) := HX208.out.cell 0
  have fc219 : w196.cell? ⟨w36.heap.size, 1, none⟩ = some (.slice A1_v35 n1_v35 c1_v35) := HX208.out.cell 1
  go_wp2_with fail
  refine (L_heldIntS _ _ (R_PartiesSeen_0 d_aR aParty) 1 _ _ HO205.out.rd (by omega) hs125 (Lib.hid rfl) (by omega) (by omega)).mono ?_
  rintro e w210 ⟨K211, rfl, hk212, h0_213, h1_214, hx215⟩
  have z220 : w196.heap.size ≤ w210.heap.size := hx215.size
  have HS221 := Lib.hid hx215
  clear hx215
  have HE222 : Hid (K211 = K127) := Lib.hid (by rw [hk212.out, hk128.out])
  have hne223 : (K211 != K127) = false := by rw [HE222.out]; simp
  clear fc216 fc217 fc218 fc219
  have HO224 := Lib.hid (HO204.out.below HS221.out (by omega))
  clear HO204
  have HO225 := Lib.hid (HO205.out.below HS221.out (by omega))
  clear HO205
  have HO226 := Lib.hid (HO206.out.below HS221.out (by omega))
  clear HO206
  have HX227 := Lib.hid (HX207.out.below HS221.out HX207.out.lt)
  clear HX207
  have HX228 := Lib.hid (HX208.out.below HS221.out HX208.out.lt)
  clear HX208
  have HB229 : Hid (Below w.heap.size w w210) := Lib.hid (HB209.out.trans (HS221.out.mono (by omega)))
  clear HB209
  clear HS221
  go_wp2
  go_ret
  exact ⟨rfl, HB229.out⟩

set_option maxRecDepth 100000 in
theorem lifted (os : Os) (started : os.Started) (H : Type) (enc : TypeId × Value → H) :
    ReturnsInHanded {} Try.checked os 14 .any (Rows.fnExactPartiesSeenSpec.pre6 enc Try.prog Try.f14 Rows.fnExactPartiesSeenRow.domain false) (Rows.fnExactPartiesSeenSpec.post enc Try.prog Try.f14 false true false false) := by
  refine returnsInHanded_of_change (C := Try.checked) own started (by kernel_rfl) Try.func14
    (ChangeSpec.witness6 (enc := enc) (C := Try.checked) false ⟨#[], #[.agg #[.slice none 0 0, .slice none 0 0], .int .i64 0], []⟩ 8 (by kernel_rfl) (by kernel_rfl) (by kernel_rfl) (by kernel_rfl)) ?_
  intro W base args ds gs before hval0 hW hcnd _
  have hval : ∀ (j : Nat) t v, Try.f14.params[j]? = some t → args[j]? = some v → Value.okWide Try.prog W .any base t v := hval0
  have hW' := hW
  obtain ⟨p, q, hA0, hV, rfl, hfz, hnd⟩ := hW
  have hA : DataW.TrodAll enc Try.prog W 0 (fun _ => true) true Try.f14.params.toList args.toList ds p := hA0
  rw [Try.params14] at hA hval
  obtain ⟨v0, vs0, dd0, ds0, p0, q0, hargs, rfl, rfl, h0, r0⟩ := trodAll_cons hA
  obtain ⟨v1, vs1, dd1, ds1, p1, q1, rfl, rfl, rfl, h1, r1⟩ := trodAll_cons r0
  obtain ⟨rfl, rfl, rfl⟩ := trodAll_nil r1
  obtain rfl : args = #[v0, v1] := by cases args; simp_all
  obtain ⟨rfl, rfl⟩ := trodVars_none hV
  obtain ⟨u0_aR, u1_aR, y0_aR, y1_aR, fz_aR, rfl, rfl, rfl, g0_aR, g1_aR⟩ := Go.Joins.open_agg2 Try.underlying68 (by kernel_rfl) (by kernel_rfl) (hval 0 68 v0 rfl rfl) h0
  obtain ⟨A1_aR, n1_aR, c1_aR, d1_aR, rfl, h1_aR⟩ := field_PointSS Try.underlying66 (by kernel_rfl) Try.underlying35 Try.underlying98 (by kernel_rfl) rfl rfl (by kernel_rfl) (by kernel_rfl) Try.underlying3 Try.underlying3 g0_aR
  obtain ⟨A2_aR, n2_aR, c2_aR, d2_aR, rfl, h2_aR⟩ := field_IntS Try.underlying24 Try.underlying3 (by kernel_rfl) g1_aR
  obtain ⟨aParty, rfl, rfl, rfl, w_aParty⟩ := open_int Try.underlying3 (hval 1 3 v1 rfl rfl) h1
  refine (walk A1_aR n1_aR c1_aR A2_aR n2_aR c2_aR d1_aR d2_aR aParty W h1_aR h2_aR w_aParty).mono fun e W' ⟨he, hb⟩ => ?_
  subst he
  exact ⟨_, rfl, post_law rfl rfl Try.underlying4 (by kernel_rfl) (by kernel_rfl) hW' rfl hb⟩

theorem closed : joinedFacts Try.prog 14 Try.f14 Rows.fnExactPartiesSeenSpec Rows.fnExactPartiesSeenRow = true := joined_of (by kernel_rfl)
theorem over : Rows.fnExactPartiesSeenRow.holds Try.pinned (OpenSpec.ofChange Rows.fnExactPartiesSeenSpec) :=
  OpenClaim.holds_of_wide 14 Try.f14 rfl rfl rfl rfl rfl rfl rfl ⟨rfl, rfl, rfl, rfl, rfl⟩ rfl rfl rfl rfl rfl (by kernel_rfl) Try.func14 closed
    (of_decide_eq_true (by kernel_rfl)) (by unfold Func.isWrapper; first | (rw [if_pos (by decide +kernel)]; kernel_rfl) | (rw [if_neg (by decide +kernel)]; exact ⟨rfl, rfl⟩))
    (fun os started H enc _ => lifted os started H enc)
/-- the statement -/
theorem proved : Rows.FnExactPartiesSeenSaid :=
  over
end Go.Proofs.Ytbmjepmlalfpgaa.fnExactPartiesSeen
