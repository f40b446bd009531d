/- FnExactChoiceAnswer answers true at every input: at each argument the function and its model answer alike, no argument is written, and the answer owns its memory. No condition. -/
import Derived.Test.YthfkjaofgpgoeaaRows
import Derived.Test.YthfkjaofgpgoeaaLaw
import Derived.Test.YthfkjaofgpgoeaaDoor
import Derived.Test.YthfkjaofgpgoeaaMFnExactChoiceAnswer
namespace Go.Proofs.Ythfkjaofgpgoeaa.fnExactChoiceAnswer
open Go.ChangeShapes Go.WideShapes Go.ChangeAt Go.RowKit
theorem own : ownKnob Try.prog.godebug = none := by kernel_rfl
set_option maxRecDepth 100000 in
set_option maxHeartbeats 4000000 in
theorem walk (A0_aD : Option Addr) (n0_aD c0_aD : Nat) (d0_aD : List Int) (z1_aD : Int) (A_aThings : Option Addr) (n_aThings c_aThings : Nat) (d_aThings : List Int) (aAsked : Int) (w : World) (h0_aD : RdIntS w w.heap.size (.slice A0_aD n0_aD c0_aD) d0_aD) (hm_aThings : n_aThings ≤ 9223372036854775807) (h_aThings : Rd w w.heap.size 1 A_aThings n_aThings (cI d_aThings)) (_w_aAsked : (Lit.int .i64 aAsked).wf = true) :
    Calls Try.prog 13 #[.agg #[.slice A0_aD n0_aD c0_aD, .int .i64 z1_aD], .slice A_aThings n_aThings c_aThings, .int .i64 aAsked] w fun e w' => e = .returned (.bool true) ∧ Below w.heap.size w w' := by
  by_cases hs_aThings : szIntS d_aThings ≤ 1048576
  · have hn_aThings : n_aThings ≤ 1048576 := by have := h_aThings.len; unfold szIntS at hs_aThings; omega
    obtain ⟨d_aD, hd_aD⟩ : ∃ d, d = (d0_aD, z1_aD) := ⟨_, rfl⟩
    have Ha_aD : Hid (RdDeal w w.heap.size (.agg #[.slice A0_aD n0_aD c0_aD, .int .i64 z1_aD]) d_aD) := Lib.hid (by rw [hd_aD]; exact ⟨_, _, _, rfl, h0_aD⟩)
    have Ha_aThings : Hid (RdIntS w w.heap.size (.slice A_aThings n_aThings c_aThings) d_aThings) := Lib.hid (⟨A_aThings, n_aThings, c_aThings, rfl, hm_aThings, h_aThings⟩)
    clear h0_aD hd_aD h_aThings
    go_enter Try.func13, Try.ntmps13
    obtain ⟨W0, hW0⟩ : ∃ W, Hid ((w.alloc (.cells #[.slice A0_aD n0_aD c0_aD, .int .i64 z1_aD] 50)) = W) := ⟨_, Lib.hid rfl⟩
    have HB_0 : Hid (Below w.heap.size w W0) := Lib.hid (by rw [← hW0.out]; exact (Below.refl _ _).alloc (Nat.le_refl _) _)
    have z_0 : W0.heap.size = w.heap.size + 1 := by rw [← hW0.out]; simp only [World.size_alloc]
    have HX_aD : Hid (Bx W0 (w.heap.size) #[.slice A0_aD n0_aD c0_aD, .int .i64 z1_aD] 50) := Lib.hid (by rw [← hW0.out]; have := Bx.new w #[.slice A0_aD n0_aD c0_aD, .int .i64 z1_aD] 50; exact this)
    go_wp2_with fail
    rw [hW0.out]
    clear hW0
    rcases Int.lt_or_le 1048576 (szDeal d_aD : Nat) with hl1 | hl1
    · refine (L_szDeal_no _ _ _ _ _ (RdDeal.below Ha_aD.out HB_0.out) (by omega) (by omega) (by omega) hl1).mono ?_
      rintro e w' ⟨rfl, hb⟩
      have hb2 := Lib.hid (HB_0.out.trans (hb.mono (by omega)))
      clear hb
      go_wp2
      go_ret
      exact ⟨rfl, hb2.out⟩
    refine (L_szDeal_ok _ _ _ _ _ (RdDeal.below Ha_aD.out HB_0.out) (by omega) (by omega) (by omega) hl1).mono ?_
    rintro e w2 ⟨L3, rfl, hx6, h0_4, h1_5, hy7⟩
    have hs_aD : szDeal d_aD ≤ 1048576 := by omega
    have z8 : W0.heap.size ≤ w2.heap.size := hy7.size
    have HS9 := Lib.hid hy7
    clear hy7
    have HX10 := Lib.hid (HX_aD.out.below HS9.out HX_aD.out.lt)
    clear HX_aD
    have HB11 : Hid (Below w.heap.size w w2) := Lib.hid (HB_0.out.trans (HS9.out.mono (by omega)))
    clear HB_0
    clear HS9
    have fc17 : w2.cell? ⟨w.heap.size, 0, none⟩ = some (.slice A0_aD n0_aD c0_aD) := HX10.out.cell 0
    have fc18 : w2.cell? ⟨w.heap.size, 1, none⟩ = some (.int .i64 z1_aD) := HX10.out.cell 1
    go_wp2_with fail
    refine (L_toDeal _ _ _ _ (RdDeal.below Ha_aD.out HB11.out) HB11.out.size hs_aD).mono ?_
    rintro e w13 ⟨v12, rfl, hx19, hy20⟩
    have z16 : w2.heap.size ≤ w13.heap.size := hy20.size
    obtain ⟨A0_v12, n0_v12, c0_v12, hv21⟩ : ∃ A0_v12 n0_v12 c0_v12, v12 = .agg #[.slice A0_v12 n0_v12 c0_v12, .int .i64 (d_aD.2)] := by obtain ⟨_, _, _, _, _, _, rfl, _⟩ := hx19; exact ⟨_, _, _, rfl⟩
    subst hv21
    have HO14 := Lib.hid hx19
    have HS15 := Lib.hid hy20
    clear hx19 hy20
    clear fc17 fc18
    have HX22 := Lib.hid (HX10.out.below HS15.out HX10.out.lt)
    clear HX10
    have HB23 : Hid (Below w.heap.size w w13) := Lib.hid (HB11.out.trans (HS15.out.mono (by omega)))
    clear HB11
    clear HS15
    have fc29 : w13.cell? ⟨w.heap.size, 0, none⟩ = some (.slice A0_aD n0_aD c0_aD) := HX22.out.cell 0
    have fc30 : w13.cell? ⟨w.heap.size, 1, none⟩ = some (.int .i64 z1_aD) := HX22.out.cell 1
    go_wp2_with fail
    refine (L_toIntS _ _ _ _ (RdIntS.below Ha_aThings.out HB23.out) HB23.out.size hs_aThings).mono ?_
    rintro e w25 ⟨v24, rfl, hx31, hy32⟩
    have z28 : w13.heap.size ≤ w25.heap.size := hy32.size
    have HO26 := Lib.hid hx31
    have HS27 := Lib.hid hy32
    clear hx31 hy32
    clear fc29 fc30
    have HO33 := Lib.hid (HO14.out.below HS27.out (by omega))
    clear HO14
    have HX34 := Lib.hid (HX22.out.below HS27.out HX22.out.lt)
    clear HX22
    have HB35 : Hid (Below w.heap.size w w25) := Lib.hid (HB23.out.trans (HS27.out.mono (by omega)))
    clear HB23
    clear HS27
    have fc36 : w25.cell? ⟨w.heap.size, 0, none⟩ = some (.slice A0_aD n0_aD c0_aD) := HX34.out.cell 0
    have fc37 : w25.cell? ⟨w.heap.size, 1, none⟩ = some (.int .i64 z1_aD) := HX34.out.cell 1
    go_wp2_with fail
    refine (X_s_ChoiceAnswer _ _ d_aD d_aThings aAsked _ (HO33.out.rd.more (by omega)) (HO26.out.rd.more (by omega)) hs_aD hs_aThings).mono ?_
    rintro e w38 ⟨w0_w38, rfl, hx39, hy40⟩
    have z41 : w25.heap.size ≤ w38.heap.size := hy40.size
    have HO42 := Lib.hid hx39
    clear hx39
    have HS43 := Lib.hid hy40
    clear hy40
    clear fc36 fc37
    have HO44 := Lib.hid (HO33.out.below HS43.out (by omega))
    clear HO33
    have HO45 := Lib.hid (HO26.out.below HS43.out (by omega))
    clear HO26
    have HX46 := Lib.hid (HX34.out.below HS43.out HX34.out.lt)
    clear HX34
    have HB47 : Hid (Below w.heap.size w w38) := Lib.hid (HB35.out.trans (HS43.out.mono (by omega)))
    clear HB35
    clear HS43
    clear HO44
    clear HO45
    have fc53 : w38.cell? ⟨w.heap.size, 0, none⟩ = some (.slice A0_aD n0_aD c0_aD) := HX46.out.cell 0
    have fc54 : w38.cell? ⟨w.heap.size, 1, none⟩ = some (.int .i64 z1_aD) := HX46.out.cell 1
    go_wp2_with fail
    refine (L_toDeal _ _ _ _ (RdDeal.below Ha_aD.out HB47.out) HB47.out.size hs_aD).mono ?_
    rintro e w49 ⟨v48, rfl, hx55, hy56⟩
    have z52 : w38.heap.size ≤ w49.heap.size := hy56.size
    obtain ⟨A0_v48, n0_v48, c0_v48, hv57⟩ : ∃ A0_v48 n0_v48 c0_v48, v48 = .agg #[.slice A0_v48 n0_v48 c0_v48, .int .i64 (d_aD.2)] := by obtain ⟨_, _, _, _, _, _, rfl, _⟩ := hx55; exact ⟨_, _, _, rfl⟩
    subst hv57
    have HO50 := Lib.hid hx55
    have HS51 := Lib.hid hy56
    clear hx55 hy56
    clear fc53 fc54
    have HO58 := Lib.hid (HO42.out.below HS51.out (by omega))
    clear HO42
    have HX59 := Lib.hid (HX46.out.below HS51.out HX46.out.lt)
    clear HX46
    have HB60 : Hid (Below w.heap.size w w49) := Lib.hid (HB47.out.trans (HS51.out.mono (by omega)))
    clear HB47
    clear HS51
    have fc66 : (w49.alloc (.cells #[.slice A0_v48 n0_v48 c0_v48, .int .i64 (d_aD.2)] 53)).cell? ⟨w.heap.size, 0, none⟩ = some (.slice A0_aD n0_aD c0_aD) := (HX59.out.alloc _).cell 0
    have fc67 : (w49.alloc (.cells #[.slice A0_v48 n0_v48 c0_v48, .int .i64 (d_aD.2)] 53)).cell? ⟨w.heap.size, 1, none⟩ = some (.int .i64 z1_aD) := (HX59.out.alloc _).cell 1
    go_wp2_with fail
    clear fc66 fc67
    obtain ⟨w68, hW69⟩ : ∃ W, Hid (w49.alloc (.cells #[.slice A0_v48 n0_v48 c0_v48, .int .i64 (d_aD.2)] 53) = W) := ⟨_, Lib.hid rfl⟩
    have z70 : w68.heap.size = w49.heap.size + 1 := by rw [← hW69.out, World.size_alloc]
    have HS71 : Hid (Below w49.heap.size w49 w68) := Lib.hid (by rw [← hW69.out]; exact (Below.refl _ _).alloc (Nat.le_refl _) _)
    have HX72 : Hid (Bx w68 w49.heap.size #[.slice A0_v48 n0_v48 c0_v48, .int .i64 (d_aD.2)] 53) := Lib.hid (by rw [← hW69.out]; exact Bx.new _ _ _)
    have HO73 := Lib.hid (HO58.out.below HS71.out (by omega))
    clear HO58
    have HO74 := Lib.hid (HO50.out.below HS71.out (by omega))
    clear HO50
    have HX75 := Lib.hid (HX59.out.below HS71.out HX59.out.lt)
    clear HX59
    have HB76 : Hid (Below w.heap.size w w68) := Lib.hid (HB60.out.trans (HS71.out.mono (by omega)))
    clear HB60
    clear HS71
    rw [hW69.out]
    clear hW69
    refine (L_toIntS _ _ _ _ (RdIntS.below Ha_aThings.out HB76.out) HB76.out.size hs_aThings).mono ?_
    rintro e w62 ⟨v61, rfl, hx77, hy78⟩
    have z65 : w68.heap.size ≤ w62.heap.size := hy78.size
    have HO63 := Lib.hid hx77
    have HS64 := Lib.hid hy78
    clear hx77 hy78
    have HO79 := Lib.hid (HO73.out.below HS64.out (by omega))
    clear HO73
    have HO80 := Lib.hid (HO74.out.below HS64.out (by omega))
    clear HO74
    have HX81 := Lib.hid (HX75.out.below HS64.out HX75.out.lt)
    clear HX75
    have HX82 := Lib.hid (HX72.out.below HS64.out HX72.out.lt)
    clear HX72
    have HB83 : Hid (Below w.heap.size w w62) := Lib.hid (HB76.out.trans (HS64.out.mono (by omega)))
    clear HB76
    clear HS64
    have fc84 : w62.cell? ⟨w.heap.size, 0, none⟩ = some (.slice A0_aD n0_aD c0_aD) := HX81.out.cell 0
    have fc85 : w62.cell? ⟨w.heap.size, 1, none⟩ = some (.int .i64 z1_aD) := HX81.out.cell 1
    have fc86 : w62.cell? ⟨w49.heap.size, 0, none⟩ = some (.slice A0_v48 n0_v48 c0_v48) := HX82.out.cell 0
    have fc87 : w62.cell? ⟨w49.heap.size, 1, none⟩ = some (.int .i64 (d_aD.2)) := HX82.out.cell 1
    go_wp2_with fail
    refine (X_i_ChoiceAnswer _ _ d_aD d_aThings aAsked _ (HO80.out.rd.more (by omega)) (HO63.out.rd.more (by omega)) hs_aD hs_aThings).mono ?_
    rintro e w88 ⟨g0_w88, rfl, hx89, hy90⟩
    have z91 : w62.heap.size ≤ w88.heap.size := hy90.size
    have HO92 := Lib.hid hx89
    clear hx89
    have HS93 := Lib.hid hy90
    clear hy90
    clear fc84 fc85 fc86 fc87
    have HO94 := Lib.hid (HO79.out.below HS93.out (by omega))
    clear HO79
    have HO95 := Lib.hid (HO80.out.below HS93.out (by omega))
    clear HO80
    have HO96 := Lib.hid (HO63.out.below HS93.out (by omega))
    clear HO63
    have HX97 := Lib.hid (HX81.out.below HS93.out HX81.out.lt)
    clear HX81
    have HX98 := Lib.hid (HX82.out.below HS93.out HX82.out.lt)
    clear HX82
    have HB99 : Hid (Below w.heap.size w w88) := Lib.hid (HB83.out.trans (HS93.out.mono (by omega)))
    clear HB83
    clear HS93
    have fc102 : w88.cell? ⟨w.heap.size, 0, none⟩ = some (.slice A0_aD n0_aD c0_aD) := HX97.out.cell 0
    have fc103 : w88.cell? ⟨w.heap.size, 1, none⟩ = some (.int .i64 z1_aD) := HX97.out.cell 1
    have fc104 : w88.cell? ⟨w49.heap.size, 0, none⟩ = some (.slice A0_v48 n0_v48 c0_v48) := HX98.out.cell 0
    have fc105 : w88.cell? ⟨w49.heap.size, 1, none⟩ = some (.int .i64 (d_aD.2)) := HX98.out.cell 1
    go_wp2_with fail
    refine (L_eqIntS _ _ _ _ _ _ HO92.out.rd HO94.out.rd (by omega) (by omega) HO92.out.small).mono ?_
    rintro e w100 ⟨rfl, hx101⟩
    have z106 : w88.heap.size ≤ w100.heap.size := hx101.size
    have HS107 := Lib.hid hx101
    clear hx101
    clear fc102 fc103 fc104 fc105
    have HO108 := Lib.hid (HO94.out.below HS107.out (by omega))
    clear HO94
    have HO109 := Lib.hid (HO95.out.below HS107.out (by omega))
    clear HO95
    have HO110 := Lib.hid (HO96.out.below HS107.out (by omega))
    clear HO96
    have HO111 := Lib.hid (HO92.out.below HS107.out (by omega))
    clear HO92
    have HX112 := Lib.hid (HX97.out.below HS107.out HX97.out.lt)
    clear HX97
    have HX113 := Lib.hid (HX98.out.below HS107.out HX98.out.lt)
    clear HX98
    have HB114 : Hid (Below w.heap.size w w100) := Lib.hid (HB99.out.trans (HS107.out.mono (by omega)))
    clear HB99
    clear HS107
    have hq_aD_0 : w100.cell? ⟨w.heap.size, 0, none⟩ = some (.slice A0_aD n0_aD c0_aD) := HX112.out.cell 0
    have hq_aD_1 : w100.cell? ⟨w.heap.size, 1, none⟩ = some (.int .i64 z1_aD) := HX112.out.cell 1
    have hq_x0_0 : w100.cell? ⟨w49.heap.size, 0, none⟩ = some (.slice A0_v48 n0_v48 c0_v48) := HX113.out.cell 0
    have hq_x0_1 : w100.cell? ⟨w49.heap.size, 1, none⟩ = some (.int .i64 (d_aD.2)) := HX113.out.cell 1
    have hbq := Below.refl w100.heap.size w100
    have hsq := And.intro hbq (And.intro hq_aD_0 (And.intro hq_aD_1 (And.intro hq_x0_0 hq_x0_1)))
    go_wp2
    go_region_held3 (fun w' => Below w100.heap.size w100 w' ∧ w'.cell? ⟨w.heap.size, 0, none⟩ = some (.slice A0_aD n0_aD c0_aD) ∧ w'.cell? ⟨w.heap.size, 1, none⟩ = some (.int .i64 z1_aD) ∧ w'.cell? ⟨w49.heap.size, 0, none⟩ = some (.slice A0_v48 n0_v48 c0_v48) ∧ w'.cell? ⟨w49.heap.size, 1, none⟩ = some (.int .i64 (d_aD.2)))
      (first | exact ⟨hbq, hq_aD_0, hq_aD_1, hq_x0_0, hq_x0_1⟩ | exact ⟨hbq.drew, hq_aD_0, hq_aD_1, hq_x0_0, hq_x0_1⟩)
      (first
        | (go_at_call 49
           refine (L_toDeal w.heap.size _ d_aD _ (RdDeal.below Ha_aD.out (Below.trans HB114.out (Below.mono (by first | exact hbq | exact hbq.drew) (by exact HB114.out.size)))) (by exact Nat.le_trans (HB114.out).size hbq.size) hs_aD).mono ?_
           rintro e w3 ⟨vq, rfl, hoq, hbq3⟩
           obtain ⟨A0_vq, n0_vq, c0_vq, hvq⟩ : ∃ A0_vq n0_vq c0_vq, vq = .agg #[.slice A0_vq n0_vq c0_vq, .int .i64 (d_aD.2)] := by obtain ⟨_, _, _, _, _, _, rfl, _⟩ := hoq; exact ⟨_, _, _, rfl⟩
           subst hvq
           have hbn : Below w100.heap.size w100 w3 := Below.trans (by first | exact hbq | exact hbq.drew) (hbq3.mono (by exact hbq.size))
           have nhq_aD_0 : w3.cell? ⟨w.heap.size, 0, none⟩ = some (.slice A0_aD n0_aD c0_aD) := (HX112.out.below hbn HX112.out.lt).cell 0
           have nhq_aD_1 : w3.cell? ⟨w.heap.size, 1, none⟩ = some (.int .i64 z1_aD) := (HX112.out.below hbn HX112.out.lt).cell 1
           have nhq_x0_0 : w3.cell? ⟨w49.heap.size, 0, none⟩ = some (.slice A0_v48 n0_v48 c0_v48) := (HX113.out.below hbn HX113.out.lt).cell 0
           have nhq_x0_1 : w3.cell? ⟨w49.heap.size, 1, none⟩ = some (.int .i64 (d_aD.2)) := (HX113.out.below hbn HX113.out.lt).cell 1
           clear hbq hq_aD_0 hq_aD_1 hq_x0_0 hq_x0_1 hbq3
           have hbq := hbn
           have hq_aD_0 := nhq_aD_0
           have hq_aD_1 := nhq_aD_1
           have hq_x0_0 := nhq_x0_0
           have hq_x0_1 := nhq_x0_1
           clear hbn nhq_aD_0 nhq_aD_1 nhq_x0_0 nhq_x0_1)
        | (go_at_call 51
           refine (L_eqDeal _ _ _ _ d_aD _ (by exact HO109.out.rd.below (hbq.mono (by omega))) (by exact hoq.rd) (by have := hbq.size; omega) (by exact Nat.le_refl _) hs_aD).mono ?_
           rintro e w4 ⟨rfl, hbq4⟩
           have hbn : Below w100.heap.size w100 w4 := Below.trans (by first | exact hbq | exact hbq.drew) (hbq4.mono (by exact hbq.size))
           have nhq_aD_0 : w4.cell? ⟨w.heap.size, 0, none⟩ = some (.slice A0_aD n0_aD c0_aD) := (HX112.out.below hbn HX112.out.lt).cell 0
           have nhq_aD_1 : w4.cell? ⟨w.heap.size, 1, none⟩ = some (.int .i64 z1_aD) := (HX112.out.below hbn HX112.out.lt).cell 1
           have nhq_x0_0 : w4.cell? ⟨w49.heap.size, 0, none⟩ = some (.slice A0_v48 n0_v48 c0_v48) := (HX113.out.below hbn HX113.out.lt).cell 0
           have nhq_x0_1 : w4.cell? ⟨w49.heap.size, 1, none⟩ = some (.int .i64 (d_aD.2)) := (HX113.out.below hbn HX113.out.lt).cell 1
           clear hbq hq_aD_0 hq_aD_1 hq_x0_0 hq_x0_1 hbq4
           have hbq := hbn
           have hq_aD_0 := nhq_aD_0
           have hq_aD_1 := nhq_aD_1
           have hq_x0_0 := nhq_x0_0
           have hq_x0_1 := nhq_x0_1
           clear hbn nhq_aD_0 nhq_aD_1 nhq_x0_0 nhq_x0_1))
    obtain ⟨w115, hwq⟩ : ∃ W, Hid (_ = W) := ⟨_, Lib.hid (Eq.refl w4)⟩
    have HS116 : Hid (Below w100.heap.size w100 w115) := Lib.hid (by rw [← hwq.out]; exact hbq)
    have z117 : w100.heap.size ≤ w115.heap.size := HS116.out.size
    try rw [hwq.out]
    clear hbq hsq hwq hoq hq_aD_0 hq_aD_1 hq_x0_0 hq_x0_1
    have HO118 := Lib.hid (HO108.out.below HS116.out (by omega))
    clear HO108
    have HO119 := Lib.hid (HO109.out.below HS116.out (by omega))
    clear HO109
    have HO120 := Lib.hid (HO110.out.below HS116.out (by omega))
    clear HO110
    have HO121 := Lib.hid (HO111.out.below HS116.out (by omega))
    clear HO111
    have HX122 := Lib.hid (HX112.out.below HS116.out HX112.out.lt)
    clear HX112
    have HX123 := Lib.hid (HX113.out.below HS116.out HX113.out.lt)
    clear HX113
    have HB124 : Hid (Below w.heap.size w w115) := Lib.hid (HB114.out.trans (HS116.out.mono (by omega)))
    clear HB114
    clear HS116
    have fc130 : w115.cell? ⟨w.heap.size, 0, none⟩ = some (.slice A0_aD n0_aD c0_aD) := HX122.out.cell 0
    have fc131 : w115.cell? ⟨w.heap.size, 1, none⟩ = some (.int .i64 z1_aD) := HX122.out.cell 1
    have fc132 : w115.cell? ⟨w49.heap.size, 0, none⟩ = some (.slice A0_v48 n0_v48 c0_v48) := HX123.out.cell 0
    have fc133 : w115.cell? ⟨w49.heap.size, 1, none⟩ = some (.int .i64 (d_aD.2)) := HX123.out.cell 1
    go_wp2_with fail
    refine (L_toIntS _ _ _ _ (RdIntS.below Ha_aThings.out HB124.out) HB124.out.size hs_aThings).mono ?_
    rintro e w126 ⟨v125, rfl, hx134, hy135⟩
    have z129 : w115.heap.size ≤ w126.heap.size := hy135.size
    have HO127 := Lib.hid hx134
    have HS128 := Lib.hid hy135
    clear hx134 hy135
    clear fc130 fc131 fc132 fc133
    have HO136 := Lib.hid (HO118.out.below HS128.out (by omega))
    clear HO118
    have HO137 := Lib.hid (HO119.out.below HS128.out (by omega))
    clear HO119
    have HO138 := Lib.hid (HO120.out.below HS128.out (by omega))
    clear HO120
    have HO139 := Lib.hid (HO121.out.below HS128.out (by omega))
    clear HO121
    have HX140 := Lib.hid (HX122.out.below HS128.out HX122.out.lt)
    clear HX122
    have HX141 := Lib.hid (HX123.out.below HS128.out HX123.out.lt)
    clear HX123
    have HB142 : Hid (Below w.heap.size w w126) := Lib.hid (HB124.out.trans (HS128.out.mono (by omega)))
    clear HB124
    clear HS128
    have fc145 : w126.cell? ⟨w.heap.size, 0, none⟩ = some (.slice A0_aD n0_aD c0_aD) := HX140.out.cell 0
    have fc146 : w126.cell? ⟨w.heap.size, 1, none⟩ = some (.int .i64 z1_aD) := HX140.out.cell 1
    have fc147 : w126.cell? ⟨w49.heap.size, 0, none⟩ = some (.slice A0_v48 n0_v48 c0_v48) := HX141.out.cell 0
    have fc148 : w126.cell? ⟨w49.heap.size, 1, none⟩ = some (.int .i64 (d_aD.2)) := HX141.out.cell 1
    go_wp2_with fail
    refine (L_eqIntS _ _ _ _ _ _ HO138.out.rd HO127.out.rd (by omega) (by omega) HO138.out.small).mono ?_
    rintro e w143 ⟨rfl, hx144⟩
    have z149 : w126.heap.size ≤ w143.heap.size := hx144.size
    have HS150 := Lib.hid hx144
    clear hx144
    clear fc145 fc146 fc147 fc148
    have HO151 := Lib.hid (HO136.out.below HS150.out (by omega))
    clear HO136
    have HO152 := Lib.hid (HO137.out.below HS150.out (by omega))
    clear HO137
    have HO153 := Lib.hid (HO138.out.below HS150.out (by omega))
    clear HO138
    have HO154 := Lib.hid (HO139.out.below HS150.out (by omega))
    clear HO139
    have HO155 := Lib.hid (HO127.out.below HS150.out (by omega))
    clear HO127
    have HX156 := Lib.hid (HX140.out.below HS150.out HX140.out.lt)
    clear HX140
    have HX157 := Lib.hid (HX141.out.below HS150.out HX141.out.lt)
    clear HX141
    have HB158 : Hid (Below w.heap.size w w143) := Lib.hid (HB142.out.trans (HS150.out.mono (by omega)))
    clear HB142
    clear HS150
    clear HO155
    have fc167 : w143.cell? ⟨w.heap.size, 0, none⟩ = some (.slice A0_aD n0_aD c0_aD) := HX156.out.cell 0
    have fc168 : w143.cell? ⟨w.heap.size, 1, none⟩ = some (.int .i64 z1_aD) := HX156.out.cell 1
    have fc169 : w143.cell? ⟨w49.heap.size, 0, none⟩ = some (.slice A0_v48 n0_v48 c0_v48) := HX157.out.cell 0
    have fc170 : w143.cell? ⟨w49.heap.size, 1, none⟩ = some (.int .i64 (d_aD.2)) := HX157.out.cell 1
    go_wp2_with fail
    refine (L_markDeal _ _ _ _ _ _ HO152.out (by omega) (by omega) (by omega)).mono ?_
    rintro e w159 ⟨K160, rfl, hk161, h0_162, h1_163, hx164, hy165⟩
    have z166 : w143.heap.size ≤ w159.heap.size := hy165.size
    have HO171 := Lib.hid hx164
    have HS172 := Lib.hid hy165
    clear hx164 hy165
    clear fc167 fc168 fc169 fc170
    have HO173 := Lib.hid (HO151.out.kept HS172.out (by omega) (by omega))
    clear HO151
    have HO174 := Lib.hid (HO153.out.kept HS172.out (by omega) (by omega))
    clear HO153
    have HO175 := Lib.hid (HO154.out.kept HS172.out (by omega) (by omega))
    clear HO154
    have HX176 := Lib.hid (HX156.out.kept HS172.out (by omega))
    clear HX156
    have HX177 := Lib.hid (HX157.out.kept HS172.out (by omega))
    clear HX157
    have HB178 : Hid (Below w.heap.size w w159) := Lib.hid (HB158.out.trans ((HS172.out.to_below (by omega)).mono (by omega)))
    clear HB158
    clear HS172 HO152
    have fc187 : w159.cell? ⟨w.heap.size, 0, none⟩ = some (.slice A0_aD n0_aD c0_aD) := HX176.out.cell 0
    have fc188 : w159.cell? ⟨w.heap.size, 1, none⟩ = some (.int .i64 z1_aD) := HX176.out.cell 1
    have fc189 : w159.cell? ⟨w49.heap.size, 0, none⟩ = some (.slice A0_v48 n0_v48 c0_v48) := HX177.out.cell 0
    have fc190 : w159.cell? ⟨w49.heap.size, 1, none⟩ = some (.int .i64 (d_aD.2)) := HX177.out.cell 1
    go_wp2_with fail
    refine (L_markIntS _ _ _ _ _ _ HO174.out (by omega) (by omega) (by omega)).mono ?_
    rintro e w179 ⟨K180, rfl, hk181, h0_182, h1_183, hx184, hy185⟩
    have z186 : w159.heap.size ≤ w179.heap.size := hy185.size
    have HO191 := Lib.hid hx184
    have HS192 := Lib.hid hy185
    clear hx184 hy185
    clear fc187 fc188 fc189 fc190
    have HO193 := Lib.hid (HO173.out.kept HS192.out (by omega) (by omega))
    clear HO173
    have HO194 := Lib.hid (HO171.out.kept HS192.out (by omega) (by omega))
    clear HO171
    have HO195 := Lib.hid (HO175.out.kept HS192.out (by omega) (by omega))
    clear HO175
    have HX196 := Lib.hid (HX176.out.kept HS192.out (by omega))
    clear HX176
    have HX197 := Lib.hid (HX177.out.kept HS192.out (by omega))
    clear HX177
    have HB198 : Hid (Below w.heap.size w w179) := Lib.hid (HB178.out.trans ((HS192.out.to_below (by omega)).mono (by omega)))
    clear HB178
    clear HS192 HO174
    clear HO194
    clear HO191
    have fc201 : w179.cell? ⟨w.heap.size, 0, none⟩ = some (.slice A0_aD n0_aD c0_aD) := HX196.out.cell 0
    have fc202 : w179.cell? ⟨w.heap.size, 1, none⟩ = some (.int .i64 z1_aD) := HX196.out.cell 1
    have fc203 : w179.cell? ⟨w49.heap.size, 0, none⟩ = some (.slice A0_v48 n0_v48 c0_v48) := HX197.out.cell 0
    have fc204 : w179.cell? ⟨w49.heap.size, 1, none⟩ = some (.int .i64 (d_aD.2)) := HX197.out.cell 1
    go_wp2_with fail
    refine (L_eqIntS _ _ _ _ _ _ HO195.out.rd HO193.out.rd (by omega) (by omega) HO195.out.small).mono ?_
    rintro e w199 ⟨rfl, hx200⟩
    have z205 : w179.heap.size ≤ w199.heap.size := hx200.size
    have HS206 := Lib.hid hx200
    clear hx200
    clear fc201 fc202 fc203 fc204
    have HO207 := Lib.hid (HO193.out.below HS206.out (by omega))
    clear HO193
    have HO208 := Lib.hid (HO195.out.below HS206.out (by omega))
    clear HO195
    have HX209 := Lib.hid (HX196.out.below HS206.out HX196.out.lt)
    clear HX196
    have HX210 := Lib.hid (HX197.out.below HS206.out HX197.out.lt)
    clear HX197
    have HB211 : Hid (Below w.heap.size w w199) := Lib.hid (HB198.out.trans (HS206.out.mono (by omega)))
    clear HB198
    clear HS206
    have hs212 := HO208.out.small
    have fc221 : w199.cell? ⟨w.heap.size, 0, none⟩ = some (.slice A0_aD n0_aD c0_aD) := HX209.out.cell 0
    have fc222 : w199.cell? ⟨w.heap.size, 1, none⟩ = some (.int .i64 z1_aD) := HX209.out.cell 1
    have fc223 : w199.cell? ⟨w49.heap.size, 0, none⟩ = some (.slice A0_v48 n0_v48 c0_v48) := HX210.out.cell 0
    have fc224 : w199.cell? ⟨w49.heap.size, 1, none⟩ = some (.int .i64 (d_aD.2)) := HX210.out.cell 1
    go_wp2_with fail
    refine (L_markIntS _ _ _ _ _ _ HO208.out (by omega) (by omega) (by omega)).mono ?_
    rintro e w213 ⟨K214, rfl, hk215, h0_216, h1_217, hx218, hy219⟩
    have z220 : w199.heap.size ≤ w213.heap.size := hy219.size
    have HO225 := Lib.hid hx218
    have HS226 := Lib.hid hy219
    clear hx218 hy219
    clear fc221 fc222 fc223 fc224
    have HO227 := Lib.hid (HO207.out.kept HS226.out (by omega) (by omega))
    clear HO207
    have HX228 := Lib.hid (HX209.out.kept HS226.out (by omega))
    clear HX209
    have HX229 := Lib.hid (HX210.out.kept HS226.out (by omega))
    clear HX210
    have HB230 : Hid (Below w.heap.size w w213) := Lib.hid (HB211.out.trans ((HS226.out.to_below (by omega)).mono (by omega)))
    clear HB211
    clear HS226 HO208
    have fc237 : w213.cell? ⟨w.heap.size, 0, none⟩ = some (.slice A0_aD n0_aD c0_aD) := HX228.out.cell 0
    have fc238 : w213.cell? ⟨w.heap.size, 1, none⟩ = some (.int .i64 z1_aD) := HX228.out.cell 1
    have fc239 : w213.cell? ⟨w49.heap.size, 0, none⟩ = some (.slice A0_v48 n0_v48 c0_v48) := HX229.out.cell 0
    have fc240 : w213.cell? ⟨w49.heap.size, 1, none⟩ = some (.int .i64 (d_aD.2)) := HX229.out.cell 1
    go_wp2_with fail
    refine (L_heldIntS _ _ (R_ChoiceAnswer_0 d_aD d_aThings aAsked) 1 _ _ HO225.out.rd (by omega) hs212 (Lib.hid rfl) (by omega) (by omega)).mono ?_
    rintro e w231 ⟨K232, rfl, hk233, h0_234, h1_235, hx236⟩
    have z241 : w213.heap.size ≤ w231.heap.size := hx236.size
    have HS242 := Lib.hid hx236
    clear hx236
    have HE243 : Hid (K232 = K214) := Lib.hid (by rw [hk233.out, hk215.out])
    have hne244 : (K232 != K214) = false := by rw [HE243.out]; simp
    clear fc237 fc238 fc239 fc240
    have HO245 := Lib.hid (HO227.out.below HS242.out (by omega))
    clear HO227
    have HO246 := Lib.hid (HO225.out.below HS242.out (by omega))
    clear HO225
    have HX247 := Lib.hid (HX228.out.below HS242.out HX228.out.lt)
    clear HX228
    have HX248 := Lib.hid (HX229.out.below HS242.out HX229.out.lt)
    clear HX229
    have HB249 : Hid (Below w.heap.size w w231) := Lib.hid (HB230.out.trans (HS242.out.mono (by omega)))
    clear HB230
    clear HS242
    have fc255 : w231.cell? ⟨w.heap.size, 0, none⟩ = some (.slice A0_aD n0_aD c0_aD) := HX247.out.cell 0
    have fc256 : w231.cell? ⟨w.heap.size, 1, none⟩ = some (.int .i64 z1_aD) := HX247.out.cell 1
    have fc257 : w231.cell? ⟨w49.heap.size, 0, none⟩ = some (.slice A0_v48 n0_v48 c0_v48) := HX248.out.cell 0
    have fc258 : w231.cell? ⟨w49.heap.size, 1, none⟩ = some (.int .i64 (d_aD.2)) := HX248.out.cell 1
    go_wp2_with fail
    refine (L_toDeal _ _ _ _ (RdDeal.below Ha_aD.out HB249.out) HB249.out.size hs_aD).mono ?_
    rintro e w251 ⟨v250, rfl, hx259, hy260⟩
    have z254 : w231.heap.size ≤ w251.heap.size := hy260.size
    obtain ⟨A0_v250, n0_v250, c0_v250, hv261⟩ : ∃ A0_v250 n0_v250 c0_v250, v250 = .agg #[.slice A0_v250 n0_v250 c0_v250, .int .i64 (d_aD.2)] := by obtain ⟨_, _, _, _, _, _, rfl, _⟩ := hx259; exact ⟨_, _, _, rfl⟩
    subst hv261
    have HO252 := Lib.hid hx259
    have HS253 := Lib.hid hy260
    clear hx259 hy260
    clear fc255 fc256 fc257 fc258
    have HO262 := Lib.hid (HO245.out.below HS253.out (by omega))
    clear HO245
    have HO263 := Lib.hid (HO246.out.below HS253.out (by omega))
    clear HO246
    have HX264 := Lib.hid (HX247.out.below HS253.out HX247.out.lt)
    clear HX247
    have HX265 := Lib.hid (HX248.out.below HS253.out HX248.out.lt)
    clear HX248
    have HB266 : Hid (Below w.heap.size w w251) := Lib.hid (HB249.out.trans (HS253.out.mono (by omega)))
    clear HB249
    clear HS253
    have fc272 : w251.cell? ⟨w.heap.size, 0, none⟩ = some (.slice A0_aD n0_aD c0_aD) := HX264.out.cell 0
    have fc273 : w251.cell? ⟨w.heap.size, 1, none⟩ = some (.int .i64 z1_aD) := HX264.out.cell 1
    have fc274 : w251.cell? ⟨w49.heap.size, 0, none⟩ = some (.slice A0_v48 n0_v48 c0_v48) := HX265.out.cell 0
    have fc275 : w251.cell? ⟨w49.heap.size, 1, none⟩ = some (.int .i64 (d_aD.2)) := HX265.out.cell 1
    go_wp2_with fail
    refine (L_toIntS _ _ _ _ (RdIntS.below Ha_aThings.out HB266.out) HB266.out.size hs_aThings).mono ?_
    rintro e w268 ⟨v267, rfl, hx276, hy277⟩
    have z271 : w251.heap.size ≤ w268.heap.size := hy277.size
    have HO269 := Lib.hid hx276
    have HS270 := Lib.hid hy277
    clear hx276 hy277
    clear fc272 fc273 fc274 fc275
    have HO278 := Lib.hid (HO262.out.below HS270.out (by omega))
    clear HO262
    have HO279 := Lib.hid (HO263.out.below HS270.out (by omega))
    clear HO263
    have HO280 := Lib.hid (HO252.out.below HS270.out (by omega))
    clear HO252
    have HX281 := Lib.hid (HX264.out.below HS270.out HX264.out.lt)
    clear HX264
    have HX282 := Lib.hid (HX265.out.below HS270.out HX265.out.lt)
    clear HX265
    have HB283 : Hid (Below w.heap.size w w268) := Lib.hid (HB266.out.trans (HS270.out.mono (by omega)))
    clear HB266
    clear HS270
    have fc284 : w268.cell? ⟨w.heap.size, 0, none⟩ = some (.slice A0_aD n0_aD c0_aD) := HX281.out.cell 0
    have fc285 : w268.cell? ⟨w.heap.size, 1, none⟩ = some (.int .i64 z1_aD) := HX281.out.cell 1
    have fc286 : w268.cell? ⟨w49.heap.size, 0, none⟩ = some (.slice A0_v48 n0_v48 c0_v48) := HX282.out.cell 0
    have fc287 : w268.cell? ⟨w49.heap.size, 1, none⟩ = some (.int .i64 (d_aD.2)) := HX282.out.cell 1
    go_wp2_with fail
    refine (X_i_ChoiceAnswer _ _ d_aD d_aThings aAsked _ (HO280.out.rd.more (by omega)) (HO269.out.rd.more (by omega)) hs_aD hs_aThings).mono ?_
    rintro e w288 ⟨h0_w288, rfl, hx289, hy290⟩
    have z291 : w268.heap.size ≤ w288.heap.size := hy290.size
    have HO292 := Lib.hid hx289
    clear hx289
    have HS293 := Lib.hid hy290
    clear hy290
    clear fc284 fc285 fc286 fc287
    have HO294 := Lib.hid (HO278.out.below HS293.out (by omega))
    clear HO278
    have HO295 := Lib.hid (HO279.out.below HS293.out (by omega))
    clear HO279
    have HO296 := Lib.hid (HO280.out.below HS293.out (by omega))
    clear HO280
    have HO297 := Lib.hid (HO269.out.below HS293.out (by omega))
    clear HO269
    have HX298 := Lib.hid (HX281.out.below HS293.out HX281.out.lt)
    clear HX281
    have HX299 := Lib.hid (HX282.out.below HS293.out HX282.out.lt)
    clear HX282
    have HB300 : Hid (Below w.heap.size w w288) := Lib.hid (HB283.out.trans (HS293.out.mono (by omega)))
    clear HB283
    clear HS293
    clear HO296
    clear HO297
    have fc303 : w288.cell? ⟨w.heap.size, 0, none⟩ = some (.slice A0_aD n0_aD c0_aD) := HX298.out.cell 0
    have fc304 : w288.cell? ⟨w.heap.size, 1, none⟩ = some (.int .i64 z1_aD) := HX298.out.cell 1
    have fc305 : w288.cell? ⟨w49.heap.size, 0, none⟩ = some (.slice A0_v48 n0_v48 c0_v48) := HX299.out.cell 0
    have fc306 : w288.cell? ⟨w49.heap.size, 1, none⟩ = some (.int .i64 (d_aD.2)) := HX299.out.cell 1
    go_wp2_with fail
    refine (L_eqIntS _ _ _ _ _ _ HO292.out.rd HO294.out.rd (by omega) (by omega) HO292.out.small).mono ?_
    rintro e w301 ⟨rfl, hx302⟩
    have z307 : w288.heap.size ≤ w301.heap.size := hx302.size
    have HS308 := Lib.hid hx302
    clear hx302
    clear fc303 fc304 fc305 fc306
    have HO309 := Lib.hid (HO294.out.below HS308.out (by omega))
    clear HO294
    have HO310 := Lib.hid (HO295.out.below HS308.out (by omega))
    clear HO295
    have HO311 := Lib.hid (HO292.out.below HS308.out (by omega))
    clear HO292
    have HX312 := Lib.hid (HX298.out.below HS308.out HX298.out.lt)
    clear HX298
    have HX313 := Lib.hid (HX299.out.below HS308.out HX299.out.lt)
    clear HX299
    have HB314 : Hid (Below w.heap.size w w301) := Lib.hid (HB300.out.trans (HS308.out.mono (by omega)))
    clear HB300
    clear HS308
    have fc321 : w301.cell? ⟨w.heap.size, 0, none⟩ = some (.slice A0_aD n0_aD c0_aD) := HX312.out.cell 0
    have fc322 : w301.cell? ⟨w.heap.size, 1, none⟩ = some (.int .i64 z1_aD) := HX312.out.cell 1
    have fc323 : w301.cell? ⟨w49.heap.size, 0, none⟩ = some (.slice A0_v48 n0_v48 c0_v48) := HX313.out.cell 0
    have fc324 : w301.cell? ⟨w49.heap.size, 1, none⟩ = some (.int .i64 (d_aD.2)) := HX313.out.cell 1
    go_wp2_with fail
    refine (L_heldIntS _ _ (R_ChoiceAnswer_0 d_aD d_aThings aAsked) 1 _ _ HO310.out.rd (by omega) hs212 (Lib.hid rfl) (by omega) (by omega)).mono ?_
    rintro e w315 ⟨K316, rfl, hk317, h0_318, h1_319, hx320⟩
    have z325 : w301.heap.size ≤ w315.heap.size := hx320.size
    have HS326 := Lib.hid hx320
    clear hx320
    have HE327 : Hid (K316 = K214) := Lib.hid (by rw [hk317.out, hk215.out])
    have hne328 : (K316 != K214) = false := by rw [HE327.out]; simp
    clear fc321 fc322 fc323 fc324
    have HO329 := Lib.hid (HO309.out.below HS326.out (by omega))
    clear HO309
    have HO330 := Lib.hid (HO310.out.below HS326.out (by omega))
    clear HO310
    have HO331 := Lib.hid (HO311.out.below HS326.out (by omega))
    clear HO311
    have HX332 := Lib.hid (HX312.out.below HS326.out HX312.out.lt)
    clear HX312
    have HX333 := Lib.hid (HX313.out.below HS326.out HX313.out.lt)
    clear HX313
    have HB334 : Hid (Below w.heap.size w w315) := Lib.hid (HB314.out.trans (HS326.out.mono (by omega)))
    clear HB314
    clear HS326
    go_wp2
    go_ret
    exact ⟨rfl, HB334.out⟩
  · have hn_aThings : ¬ n_aThings ≤ 1048576 := by have := h_aThings.len; unfold szIntS at hs_aThings; omega
    go_enter Try.func13, Try.ntmps13
    go_wp2
    go_ret
    exact ⟨rfl, by first | exact Below.refl _ _ | exact (Below.refl _ _).alloc (Nat.le_refl _) _ | exact ((Below.refl _ _).alloc (Nat.le_refl _) _).alloc (by simp) _⟩

set_option maxRecDepth 100000 in
theorem lifted (os : Os) (started : os.Started) (H : Type) (enc : TypeId × Value → H) :
    ReturnsInHanded {} Try.checked os 13 .any (Rows.fnExactChoiceAnswerSpec.pre6 enc Try.prog Try.f13 Rows.fnExactChoiceAnswerRow.domain false) (Rows.fnExactChoiceAnswerSpec.post enc Try.prog Try.f13 false true false false) := by
  refine returnsInHanded_of_change (C := Try.checked) own started (by kernel_rfl) Try.func13
    (ChangeSpec.witness6 (enc := enc) (C := Try.checked) false ⟨#[], #[.agg #[.slice none 0 0, .int .i64 0], .slice none 0 0, .int .i64 0], []⟩ 8 (by kernel_rfl) (by kernel_rfl) (by kernel_rfl) (by kernel_rfl)) ?_
  intro W base args ds gs before hval0 hW hcnd _
  have hval : ∀ (j : Nat) t v, Try.f13.params[j]? = some t → args[j]? = some v → Value.okWide Try.prog W .any base t v := hval0
  have hW' := hW
  obtain ⟨p, q, hA0, hV, rfl, hfz, hnd⟩ := hW
  have hA : DataW.TrodAll enc Try.prog W 0 (fun _ => true) true Try.f13.params.toList args.toList ds p := hA0
  rw [Try.params13] at hA hval
  obtain ⟨v0, vs0, dd0, ds0, p0, q0, hargs, rfl, rfl, h0, r0⟩ := trodAll_cons hA
  obtain ⟨v1, vs1, dd1, ds1, p1, q1, rfl, rfl, rfl, h1, r1⟩ := trodAll_cons r0
  obtain ⟨v2, vs2, dd2, ds2, p2, q2, rfl, rfl, rfl, h2, r2⟩ := trodAll_cons r1
  obtain ⟨rfl, rfl, rfl⟩ := trodAll_nil r2
  obtain rfl : args = #[v0, v1, v2] := by cases args; simp_all
  obtain ⟨rfl, rfl⟩ := trodVars_none hV
  obtain ⟨u0_aD, u1_aD, y0_aD, y1_aD, fz_aD, rfl, rfl, rfl, g0_aD, g1_aD⟩ := Go.Joins.open_agg2 Try.underlying50 (by kernel_rfl) (by kernel_rfl) (hval 0 50 v0 rfl rfl) h0
  obtain ⟨A0_aD, n0_aD, c0_aD, d0_aD, rfl, h0_aD⟩ := field_IntS Try.underlying22 Try.underlying3 (by kernel_rfl) g0_aD
  obtain ⟨z1_aD, rfl, _⟩ := field_int Try.underlying3 g1_aD
  obtain ⟨A_aThings, n_aThings, c_aThings, d_aThings, rfl, hm_aThings, h_aThings⟩ := open_intS Try.underlying22 Try.underlying3 (by kernel_rfl) (hval 1 22 v1 rfl rfl) h1
  obtain ⟨aAsked, rfl, rfl, rfl, w_aAsked⟩ := open_int Try.underlying3 (hval 2 3 v2 rfl rfl) h2
  refine (walk A0_aD n0_aD c0_aD d0_aD z1_aD A_aThings n_aThings c_aThings d_aThings aAsked W h0_aD hm_aThings h_aThings w_aAsked).mono fun e W' ⟨he, hb⟩ => ?_
  subst he
  exact ⟨_, rfl, post_law rfl rfl Try.underlying4 (by kernel_rfl) (by kernel_rfl) hW' rfl hb⟩

theorem closed : joinedFacts Try.prog 13 Try.f13 Rows.fnExactChoiceAnswerSpec Rows.fnExactChoiceAnswerRow = true := joined_of (by kernel_rfl)
theorem over : Rows.fnExactChoiceAnswerRow.holds Try.pinned (OpenSpec.ofChange Rows.fnExactChoiceAnswerSpec) :=
  OpenClaim.holds_of_wide 13 Try.f13 rfl rfl rfl rfl rfl rfl rfl ⟨rfl, rfl, rfl, rfl, rfl⟩ rfl rfl rfl rfl rfl (by kernel_rfl) Try.func13 closed
    (of_decide_eq_true (by kernel_rfl)) (by unfold Func.isWrapper; first | (rw [if_pos (by decide +kernel)]; kernel_rfl) | (rw [if_neg (by decide +kernel)]; exact ⟨rfl, rfl⟩))
    (fun os started H enc _ => lifted os started H enc)
/-- the statement -/
theorem proved : Rows.FnExactChoiceAnswerSaid :=
  over
end Go.Proofs.Ythfkjaofgpgoeaa.fnExactChoiceAnswer
