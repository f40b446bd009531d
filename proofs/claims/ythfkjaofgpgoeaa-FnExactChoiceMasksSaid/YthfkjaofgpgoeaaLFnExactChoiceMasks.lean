/- FnExactChoiceMasks answers true at every input: at each argument the function and its model answer alike, no argument is written, and the answer owns its memory. No condition. -/
import Derived.Test.YthfkjaofgpgoeaaRows
import Derived.Test.YthfkjaofgpgoeaaLaw
import Derived.Test.YthfkjaofgpgoeaaDoor
import Derived.Test.YthfkjaofgpgoeaaMFnExactChoiceMasks
namespace Go.Proofs.Ythfkjaofgpgoeaa.fnExactChoiceMasks
open Go.ChangeShapes Go.WideShapes Go.ChangeAt Go.RowKit
theorem own : ownKnob Try.prog.godebug = none := by kernel_rfl
set_option maxRecDepth 100000 in
set_option maxHeartbeats 4000000 in
theorem walk (A0_aD : Option Addr) (n0_aD c0_aD : Nat) (d0_aD : List Int) (z1_aD : Int) (aChoice : Int) (A_aThings : Option Addr) (n_aThings c_aThings : Nat) (d_aThings : List Int) (A_aOthers : Option Addr) (n_aOthers c_aOthers : Nat) (d_aOthers : List Int) (w : World) (h0_aD : RdIntS w w.heap.size (.slice A0_aD n0_aD c0_aD) d0_aD) (_w_aChoice : (Lit.int .i64 aChoice).wf = true) (hm_aThings : n_aThings ≤ 9223372036854775807) (h_aThings : Rd w w.heap.size 1 A_aThings n_aThings (cI d_aThings)) (hm_aOthers : n_aOthers ≤ 9223372036854775807) (h_aOthers : Rd w w.heap.size 1 A_aOthers n_aOthers (cI d_aOthers)) :
    Calls Try.prog 16 #[.agg #[.slice A0_aD n0_aD c0_aD, .int .i64 z1_aD], .int .i64 aChoice, .slice A_aThings n_aThings c_aThings, .slice A_aOthers n_aOthers c_aOthers] w fun e w' => e = .returned (.bool true) ∧ Below w.heap.size w w' := by
  by_cases hs_aThings : szIntS d_aThings ≤ 1048576
  · have hn_aThings : n_aThings ≤ 1048576 := by have := h_aThings.len; unfold szIntS at hs_aThings; omega
    by_cases hs_aOthers : szIntS d_aOthers ≤ 1048576
    · have hn_aOthers : n_aOthers ≤ 1048576 := by have := h_aOthers.len; unfold szIntS at hs_aOthers; omega
      obtain ⟨d_aD, hd_aD⟩ : ∃ d, d = (d0_aD, z1_aD) := ⟨_, rfl⟩
      have Ha_aD : Hid (RdDeal w w.heap.size (.agg #[.slice A0_aD n0_aD c0_aD, .int .i64 z1_aD]) d_aD) := Lib.hid (by rw [hd_aD]; exact ⟨_, _, _, rfl, h0_aD⟩)
      have Ha_aThings : Hid (RdIntS w w.heap.size (.slice A_aThings n_aThings c_aThings) d_aThings) := Lib.hid (⟨A_aThings, n_aThings, c_aThings, rfl, hm_aThings, h_aThings⟩)
      have Ha_aOthers : Hid (RdIntS w w.heap.size (.slice A_aOthers n_aOthers c_aOthers) d_aOthers) := Lib.hid (⟨A_aOthers, n_aOthers, c_aOthers, rfl, hm_aOthers, h_aOthers⟩)
      clear h0_aD hd_aD h_aThings h_aOthers
      go_enter Try.func16, Try.ntmps16
      obtain ⟨W0, hW0⟩ : ∃ W, Hid ((w.alloc (.cells #[.slice A0_aD n0_aD c0_aD, .int .i64 z1_aD] 50)) = W) := ⟨_, Lib.hid rfl⟩
      have HB_0 : Hid (Below w.heap.size w W0) := Lib.hid (by rw [← hW0.out]; exact (Below.refl _ _).alloc (Nat.le_refl _) _)
      have z_0 : W0.heap.size = w.heap.size + 1 := by rw [← hW0.out]; simp only [World.size_alloc]
      have HX_aD : Hid (Bx W0 (w.heap.size) #[.slice A0_aD n0_aD c0_aD, .int .i64 z1_aD] 50) := Lib.hid (by rw [← hW0.out]; have := Bx.new w #[.slice A0_aD n0_aD c0_aD, .int .i64 z1_aD] 50; exact this)
      go_wp2_with fail
      rw [hW0.out]
      clear hW0
      rcases Int.lt_or_le 1048576 (szDeal d_aD : Nat) with hl1 | hl1
      · refine (L_szDeal_no _ _ _ _ _ (RdDeal.below Ha_aD.out HB_0.out) (by omega) (by omega) (by omega) hl1).mono ?_
        rintro e w' ⟨rfl, hb⟩
        have hb2 := Lib.hid (HB_0.out.trans (hb.mono (by omega)))
        clear hb
        go_wp2
        go_ret
        exact ⟨rfl, hb2.out⟩
      refine (L_szDeal_ok _ _ _ _ _ (RdDeal.below Ha_aD.out HB_0.out) (by omega) (by omega) (by omega) hl1).mono ?_
      rintro e w2 ⟨L3, rfl, hx6, h0_4, h1_5, hy7⟩
      have hs_aD : szDeal d_aD ≤ 1048576 := by omega
      have z8 : W0.heap.size ≤ w2.heap.size := hy7.size
      have HS9 := Lib.hid hy7
      clear hy7
      have HX10 := Lib.hid (HX_aD.out.below HS9.out HX_aD.out.lt)
      clear HX_aD
      have HB11 : Hid (Below w.heap.size w w2) := Lib.hid (HB_0.out.trans (HS9.out.mono (by omega)))
      clear HB_0
      clear HS9
      have fc17 : w2.cell? ⟨w.heap.size, 0, none⟩ = some (.slice A0_aD n0_aD c0_aD) := HX10.out.cell 0
      have fc18 : w2.cell? ⟨w.heap.size, 1, none⟩ = some (.int .i64 z1_aD) := HX10.out.cell 1
      go_wp2_with fail
      refine (L_toDeal _ _ _ _ (RdDeal.below Ha_aD.out HB11.out) HB11.out.size hs_aD).mono ?_
      rintro e w13 ⟨v12, rfl, hx19, hy20⟩
      have z16 : w2.heap.size ≤ w13.heap.size := hy20.size
      obtain ⟨A0_v12, n0_v12, c0_v12, hv21⟩ : ∃ A0_v12 n0_v12 c0_v12, v12 = .agg #[.slice A0_v12 n0_v12 c0_v12, .int .i64 (d_aD.2)] := by obtain ⟨_, _, _, _, _, _, rfl, _⟩ := hx19; exact ⟨_, _, _, rfl⟩
      subst hv21
      have HO14 := Lib.hid hx19
      have HS15 := Lib.hid hy20
      clear hx19 hy20
      clear fc17 fc18
      have HX22 := Lib.hid (HX10.out.below HS15.out HX10.out.lt)
      clear HX10
      have HB23 : Hid (Below w.heap.size w w13) := Lib.hid (HB11.out.trans (HS15.out.mono (by omega)))
      clear HB11
      clear HS15
      have fc29 : w13.cell? ⟨w.heap.size, 0, none⟩ = some (.slice A0_aD n0_aD c0_aD) := HX22.out.cell 0
      have fc30 : w13.cell? ⟨w.heap.size, 1, none⟩ = some (.int .i64 z1_aD) := HX22.out.cell 1
      go_wp2_with fail
      refine (L_toIntS _ _ _ _ (RdIntS.below Ha_aThings.out HB23.out) HB23.out.size hs_aThings).mono ?_
      rintro e w25 ⟨v24, rfl, hx31, hy32⟩
      have z28 : w13.heap.size ≤ w25.heap.size := hy32.size
      have HO26 := Lib.hid hx31
      have HS27 := Lib.hid hy32
      clear hx31 hy32
      clear fc29 fc30
      have HO33 := Lib.hid (HO14.out.below HS27.out (by omega))
      clear HO14
      have HX34 := Lib.hid (HX22.out.below HS27.out HX22.out.lt)
      clear HX22
      have HB35 : Hid (Below w.heap.size w w25) := Lib.hid (HB23.out.trans (HS27.out.mono (by omega)))
      clear HB23
      clear HS27
      have fc41 : w25.cell? ⟨w.heap.size, 0, none⟩ = some (.slice A0_aD n0_aD c0_aD) := HX34.out.cell 0
      have fc42 : w25.cell? ⟨w.heap.size, 1, none⟩ = some (.int .i64 z1_aD) := HX34.out.cell 1
      go_wp2_with fail
      refine (L_toIntS _ _ _ _ (RdIntS.below Ha_aOthers.out HB35.out) HB35.out.size hs_aOthers).mono ?_
      rintro e w37 ⟨v36, rfl, hx43, hy44⟩
      have z40 : w25.heap.size ≤ w37.heap.size := hy44.size
      have HO38 := Lib.hid hx43
      have HS39 := Lib.hid hy44
      clear hx43 hy44
      clear fc41 fc42
      have HO45 := Lib.hid (HO33.out.below HS39.out (by omega))
      clear HO33
      have HO46 := Lib.hid (HO26.out.below HS39.out (by omega))
      clear HO26
      have HX47 := Lib.hid (HX34.out.below HS39.out HX34.out.lt)
      clear HX34
      have HB48 : Hid (Below w.heap.size w w37) := Lib.hid (HB35.out.trans (HS39.out.mono (by omega)))
      clear HB35
      clear HS39
      have fc49 : w37.cell? ⟨w.heap.size, 0, none⟩ = some (.slice A0_aD n0_aD c0_aD) := HX47.out.cell 0
      have fc50 : w37.cell? ⟨w.heap.size, 1, none⟩ = some (.int .i64 z1_aD) := HX47.out.cell 1
      go_wp2_with fail
      refine (X_s_ChoiceMasks _ _ _ d_aD aChoice d_aThings d_aOthers _ (HO45.out.rd.more (by omega)) (HO46.out.rd.more (by omega)) (HO38.out.rd.more (by omega)) hs_aD hs_aThings hs_aOthers).mono ?_
      rintro e w51 ⟨w0_w51, rfl, hx52, hy53⟩
      have z54 : w37.heap.size ≤ w51.heap.size := hy53.size
      have HO55 := Lib.hid hx52
      clear hx52
      have HS56 := Lib.hid hy53
      clear hy53
      clear fc49 fc50
      have HO57 := Lib.hid (HO45.out.below HS56.out (by omega))
      clear HO45
      have HO58 := Lib.hid (HO46.out.below HS56.out (by omega))
      clear HO46
      have HO59 := Lib.hid (HO38.out.below HS56.out (by omega))
      clear HO38
      have HX60 := Lib.hid (HX47.out.below HS56.out HX47.out.lt)
      clear HX47
      have HB61 : Hid (Below w.heap.size w w51) := Lib.hid (HB48.out.trans (HS56.out.mono (by omega)))
      clear HB48
      clear HS56
      clear HO57
      clear HO58
      clear HO59
      have fc67 : w51.cell? ⟨w.heap.size, 0, none⟩ = some (.slice A0_aD n0_aD c0_aD) := HX60.out.cell 0
      have fc68 : w51.cell? ⟨w.heap.size, 1, none⟩ = some (.int .i64 z1_aD) := HX60.out.cell 1
      go_wp2_with fail
      refine (L_toDeal _ _ _ _ (RdDeal.below Ha_aD.out HB61.out) HB61.out.size hs_aD).mono ?_
      rintro e w63 ⟨v62, rfl, hx69, hy70⟩
      have z66 : w51.heap.size ≤ w63.heap.size := hy70.size
      obtain ⟨A0_v62, n0_v62, c0_v62, hv71⟩ : ∃ A0_v62 n0_v62 c0_v62, v62 = .agg #[.slice A0_v62 n0_v62 c0_v62, .int .i64 (d_aD.2)] := by obtain ⟨_, _, _, _, _, _, rfl, _⟩ := hx69; exact ⟨_, _, _, rfl⟩
      subst hv71
      have HO64 := Lib.hid hx69
      have HS65 := Lib.hid hy70
      clear hx69 hy70
      clear fc67 fc68
      have HO72 := Lib.hid (HO55.out.below HS65.out (by omega))
      clear HO55
      have HX73 := Lib.hid (HX60.out.below HS65.out HX60.out.lt)
      clear HX60
      have HB74 : Hid (Below w.heap.size w w63) := Lib.hid (HB61.out.trans (HS65.out.mono (by omega)))
      clear HB61
      clear HS65
      have fc80 : (w63.alloc (.cells #[.slice A0_v62 n0_v62 c0_v62, .int .i64 (d_aD.2)] 53)).cell? ⟨w.heap.size, 0, none⟩ = some (.slice A0_aD n0_aD c0_aD) := (HX73.out.alloc _).cell 0
      have fc81 : (w63.alloc (.cells #[.slice A0_v62 n0_v62 c0_v62, .int .i64 (d_aD.2)] 53)).cell? ⟨w.heap.size, 1, none⟩ = some (.int .i64 z1_aD) := (HX73.out.alloc _).cell 1
      go_wp2_with fail
      clear fc80 fc81
      obtain ⟨w82, hW83⟩ : ∃ W, Hid (w63.alloc (.cells #[.slice A0_v62 n0_v62 c0_v62, .int .i64 (d_aD.2)] 53) = W) := ⟨_, Lib.hid rfl⟩
      have z84 : w82.heap.size = w63.heap.size + 1 := by rw [← hW83.out, World.size_alloc]
      have HS85 : Hid (Below w63.heap.size w63 w82) := Lib.hid (by rw [← hW83.out]; exact (Below.refl _ _).alloc (Nat.le_refl _) _)
      have HX86 : Hid (Bx w82 w63.heap.size #[.slice A0_v62 n0_v62 c0_v62, .int .i64 (d_aD.2)] 53) := Lib.hid (by rw [← hW83.out]; exact Bx.new _ _ _)
      have HO87 := Lib.hid (HO72.out.below HS85.out (by omega))
      clear HO72
      have HO88 := Lib.hid (HO64.out.below HS85.out (by omega))
      clear HO64
      have HX89 := Lib.hid (HX73.out.below HS85.out HX73.out.lt)
      clear HX73
      have HB90 : Hid (Below w.heap.size w w82) := Lib.hid (HB74.out.trans (HS85.out.mono (by omega)))
      clear HB74
      clear HS85
      rw [hW83.out]
      clear hW83
      refine (L_toIntS _ _ _ _ (RdIntS.below Ha_aThings.out HB90.out) HB90.out.size hs_aThings).mono ?_
      rintro e w76 ⟨v75, rfl, hx91, hy92⟩
      have z79 : w82.heap.size ≤ w76.heap.size := hy92.size
      have HO77 := Lib.hid hx91
      have HS78 := Lib.hid hy92
      clear hx91 hy92
      have HO93 := Lib.hid (HO87.out.below HS78.out (by omega))
      clear HO87
      have HO94 := Lib.hid (HO88.out.below HS78.out (by omega))
      clear HO88
      have HX95 := Lib.hid (HX89.out.below HS78.out HX89.out.lt)
      clear HX89
      have HX96 := Lib.hid (HX86.out.below HS78.out HX86.out.lt)
      clear HX86
      have HB97 : Hid (Below w.heap.size w w76) := Lib.hid (HB90.out.trans (HS78.out.mono (by omega)))
      clear HB90
      clear HS78
      have fc103 : w76.cell? ⟨w.heap.size, 0, none⟩ = some (.slice A0_aD n0_aD c0_aD) := HX95.out.cell 0
      have fc104 : w76.cell? ⟨w.heap.size, 1, none⟩ = some (.int .i64 z1_aD) := HX95.out.cell 1
      have fc105 : w76.cell? ⟨w63.heap.size, 0, none⟩ = some (.slice A0_v62 n0_v62 c0_v62) := HX96.out.cell 0
      have fc106 : w76.cell? ⟨w63.heap.size, 1, none⟩ = some (.int .i64 (d_aD.2)) := HX96.out.cell 1
      go_wp2_with fail
      refine (L_toIntS _ _ _ _ (RdIntS.below Ha_aOthers.out HB97.out) HB97.out.size hs_aOthers).mono ?_
      rintro e w99 ⟨v98, rfl, hx107, hy108⟩
      have z102 : w76.heap.size ≤ w99.heap.size := hy108.size
      have HO100 := Lib.hid hx107
      have HS101 := Lib.hid hy108
      clear hx107 hy108
      clear fc103 fc104 fc105 fc106
      have HO109 := Lib.hid (HO93.out.below HS101.out (by omega))
      clear HO93
      have HO110 := Lib.hid (HO94.out.below HS101.out (by omega))
      clear HO94
      have HO111 := Lib.hid (HO77.out.below HS101.out (by omega))
      clear HO77
      have HX112 := Lib.hid (HX95.out.below HS101.out HX95.out.lt)
      clear HX95
      have HX113 := Lib.hid (HX96.out.below HS101.out HX96.out.lt)
      clear HX96
      have HB114 : Hid (Below w.heap.size w w99) := Lib.hid (HB97.out.trans (HS101.out.mono (by omega)))
      clear HB97
      clear HS101
      have fc115 : w99.cell? ⟨w.heap.size, 0, none⟩ = some (.slice A0_aD n0_aD c0_aD) := HX112.out.cell 0
      have fc116 : w99.cell? ⟨w.heap.size, 1, none⟩ = some (.int .i64 z1_aD) := HX112.out.cell 1
      have fc117 : w99.cell? ⟨w63.heap.size, 0, none⟩ = some (.slice A0_v62 n0_v62 c0_v62) := HX113.out.cell 0
      have fc118 : w99.cell? ⟨w63.heap.size, 1, none⟩ = some (.int .i64 (d_aD.2)) := HX113.out.cell 1
      go_wp2_with fail
      refine (X_i_ChoiceMasks _ _ _ d_aD aChoice d_aThings d_aOthers _ (HO110.out.rd.more (by omega)) (HO111.out.rd.more (by omega)) (HO100.out.rd.more (by omega)) hs_aD hs_aThings hs_aOthers).mono ?_
      rintro e w119 ⟨g0_w119, rfl, hx120, hy121⟩
      have z122 : w99.heap.size ≤ w119.heap.size := hy121.size
      have HO123 := Lib.hid hx120
      clear hx120
      have HS124 := Lib.hid hy121
      clear hy121
      clear fc115 fc116 fc117 fc118
      have HO125 := Lib.hid (HO109.out.below HS124.out (by omega))
      clear HO109
      have HO126 := Lib.hid (HO110.out.below HS124.out (by omega))
      clear HO110
      have HO127 := Lib.hid (HO111.out.below HS124.out (by omega))
      clear HO111
      have HO128 := Lib.hid (HO100.out.below HS124.out (by omega))
      clear HO100
      have HX129 := Lib.hid (HX112.out.below HS124.out HX112.out.lt)
      clear HX112
      have HX130 := Lib.hid (HX113.out.below HS124.out HX113.out.lt)
      clear HX113
      have HB131 : Hid (Below w.heap.size w w119) := Lib.hid (HB114.out.trans (HS124.out.mono (by omega)))
      clear HB114
      clear HS124
      have fc134 : w119.cell? ⟨w.heap.size, 0, none⟩ = some (.slice A0_aD n0_aD c0_aD) := HX129.out.cell 0
      have fc135 : w119.cell? ⟨w.heap.size, 1, none⟩ = some (.int .i64 z1_aD) := HX129.out.cell 1
      have fc136 : w119.cell? ⟨w63.heap.size, 0, none⟩ = some (.slice A0_v62 n0_v62 c0_v62) := HX130.out.cell 0
      have fc137 : w119.cell? ⟨w63.heap.size, 1, none⟩ = some (.int .i64 (d_aD.2)) := HX130.out.cell 1
      go_wp2_with fail
      refine (L_eqIntS _ _ _ _ _ _ HO123.out.rd HO125.out.rd (by omega) (by omega) HO123.out.small).mono ?_
      rintro e w132 ⟨rfl, hx133⟩
      have z138 : w119.heap.size ≤ w132.heap.size := hx133.size
      have HS139 := Lib.hid hx133
      clear hx133
      clear fc134 fc135 fc136 fc137
      have HO140 := Lib.hid (HO125.out.below HS139.out (by omega))
      clear HO125
      have HO141 := Lib.hid (HO126.out.below HS139.out (by omega))
      clear HO126
      have HO142 := Lib.hid (HO127.out.below HS139.out (by omega))
      clear HO127
      have HO143 := Lib.hid (HO128.out.below HS139.out (by omega))
      clear HO128
      have HO144 := Lib.hid (HO123.out.below HS139.out (by omega))
      clear HO123
      have HX145 := Lib.hid (HX129.out.below HS139.out HX129.out.lt)
      clear HX129
      have HX146 := Lib.hid (HX130.out.below HS139.out HX130.out.lt)
      clear HX130
      have HB147 : Hid (Below w.heap.size w w132) := Lib.hid (HB131.out.trans (HS139.out.mono (by omega)))
      clear HB131
      clear HS139
      have hq_aD_0 : w132.cell? ⟨w.heap.size, 0, none⟩ = some (.slice A0_aD n0_aD c0_aD) := HX145.out.cell 0
      have hq_aD_1 : w132.cell? ⟨w.heap.size, 1, none⟩ = some (.int .i64 z1_aD) := HX145.out.cell 1
      have hq_x0_0 : w132.cell? ⟨w63.heap.size, 0, none⟩ = some (.slice A0_v62 n0_v62 c0_v62) := HX146.out.cell 0
      have hq_x0_1 : w132.cell? ⟨w63.heap.size, 1, none⟩ = some (.int .i64 (d_aD.2)) := HX146.out.cell 1
      have hbq := Below.refl w132.heap.size w132
      have hsq := And.intro hbq (And.intro hq_aD_0 (And.intro hq_aD_1 (And.intro hq_x0_0 hq_x0_1)))
      go_wp2
      go_region_held3 (fun w' => Below w132.heap.size w132 w' ∧ w'.cell? ⟨w.heap.size, 0, none⟩ = some (.slice A0_aD n0_aD c0_aD) ∧ w'.cell? ⟨w.heap.size, 1, none⟩ = some (.int .i64 z1_aD) ∧ w'.cell? ⟨w63.heap.size, 0, none⟩ = some (.slice A0_v62 n0_v62 c0_v62) ∧ w'.cell? ⟨w63.heap.size, 1, none⟩ = some (.int .i64 (d_aD.2)))
        (first | exact ⟨hbq, hq_aD_0, hq_aD_1, hq_x0_0, hq_x0_1⟩ | exact ⟨hbq.drew, hq_aD_0, hq_aD_1, hq_x0_0, hq_x0_1⟩)
        (first
          | (go_at_call 49
             refine (L_toDeal w.heap.size _ d_aD _ (RdDeal.below Ha_aD.out (Below.trans HB147.out (Below.mono (by first | exact hbq | exact hbq.drew) (by exact HB147.out.size)))) (by exact Nat.le_trans (HB147.out).size hbq.size) hs_aD).mono ?_
             rintro e w3 ⟨vq, rfl, hoq, hbq3⟩
             obtain ⟨A0_vq, n0_vq, c0_vq, hvq⟩ : ∃ A0_vq n0_vq c0_vq, vq = .agg #[.slice A0_vq n0_vq c0_vq, .int .i64 (d_aD.2)] := by obtain ⟨_, _, _, _, _, _, rfl, _⟩ := hoq; exact ⟨_, _, _, rfl⟩
             subst hvq
             have hbn : Below w132.heap.size w132 w3 := Below.trans (by first | exact hbq | exact hbq.drew) (hbq3.mono (by exact hbq.size))
             have nhq_aD_0 : w3.cell? ⟨w.heap.size, 0, none⟩ = some (.slice A0_aD n0_aD c0_aD) := (HX145.out.below hbn HX145.out.lt).cell 0
             have nhq_aD_1 : w3.cell? ⟨w.heap.size, 1, none⟩ = some (.int .i64 z1_aD) := (HX145.out.below hbn HX145.out.lt).cell 1
             have nhq_x0_0 : w3.cell? ⟨w63.heap.size, 0, none⟩ = some (.slice A0_v62 n0_v62 c0_v62) := (HX146.out.below hbn HX146.out.lt).cell 0
             have nhq_x0_1 : w3.cell? ⟨w63.heap.size, 1, none⟩ = some (.int .i64 (d_aD.2)) := (HX146.out.below hbn HX146.out.lt).cell 1
             clear hbq hq_aD_0 hq_aD_1 hq_x0_0 hq_x0_1 hbq3
             have hbq := hbn
             have hq_aD_0 := nhq_aD_0
             have hq_aD_1 := nhq_aD_1
             have hq_x0_0 := nhq_x0_0
             have hq_x0_1 := nhq_x0_1
             clear hbn nhq_aD_0 nhq_aD_1 nhq_x0_0 nhq_x0_1)
          | (go_at_call 51
             refine (L_eqDeal _ _ _ _ d_aD _ (by exact HO141.out.rd.below (hbq.mono (by omega))) (by exact hoq.rd) (by have := hbq.size; omega) (by exact Nat.le_refl _) hs_aD).mono ?_
             rintro e w4 ⟨rfl, hbq4⟩
             have hbn : Below w132.heap.size w132 w4 := Below.trans (by first | exact hbq | exact hbq.drew) (hbq4.mono (by exact hbq.size))
             have nhq_aD_0 : w4.cell? ⟨w.heap.size, 0, none⟩ = some (.slice A0_aD n0_aD c0_aD) := (HX145.out.below hbn HX145.out.lt).cell 0
             have nhq_aD_1 : w4.cell? ⟨w.heap.size, 1, none⟩ = some (.int .i64 z1_aD) := (HX145.out.below hbn HX145.out.lt).cell 1
             have nhq_x0_0 : w4.cell? ⟨w63.heap.size, 0, none⟩ = some (.slice A0_v62 n0_v62 c0_v62) := (HX146.out.below hbn HX146.out.lt).cell 0
             have nhq_x0_1 : w4.cell? ⟨w63.heap.size, 1, none⟩ = some (.int .i64 (d_aD.2)) := (HX146.out.below hbn HX146.out.lt).cell 1
             clear hbq hq_aD_0 hq_aD_1 hq_x0_0 hq_x0_1 hbq4
             have hbq := hbn
             have hq_aD_0 := nhq_aD_0
             have hq_aD_1 := nhq_aD_1
             have hq_x0_0 := nhq_x0_0
             have hq_x0_1 := nhq_x0_1
             clear hbn nhq_aD_0 nhq_aD_1 nhq_x0_0 nhq_x0_1))
      obtain ⟨w148, hwq⟩ : ∃ W, Hid (_ = W) := ⟨_, Lib.hid (Eq.refl w4)⟩
      have HS149 : Hid (Below w132.heap.size w132 w148) := Lib.hid (by rw [← hwq.out]; exact hbq)
      have z150 : w132.heap.size ≤ w148.heap.size := HS149.out.size
      try rw [hwq.out]
      clear hbq hsq hwq hoq hq_aD_0 hq_aD_1 hq_x0_0 hq_x0_1
      have HO151 := Lib.hid (HO140.out.below HS149.out (by omega))
      clear HO140
      have HO152 := Lib.hid (HO141.out.below HS149.out (by omega))
      clear HO141
      have HO153 := Lib.hid (HO142.out.below HS149.out (by omega))
      clear HO142
      have HO154 := Lib.hid (HO143.out.below HS149.out (by omega))
      clear HO143
      have HO155 := Lib.hid (HO144.out.below HS149.out (by omega))
      clear HO144
      have HX156 := Lib.hid (HX145.out.below HS149.out HX145.out.lt)
      clear HX145
      have HX157 := Lib.hid (HX146.out.below HS149.out HX146.out.lt)
      clear HX146
      have HB158 : Hid (Below w.heap.size w w148) := Lib.hid (HB147.out.trans (HS149.out.mono (by omega)))
      clear HB147
      clear HS149
      have fc164 : w148.cell? ⟨w.heap.size, 0, none⟩ = some (.slice A0_aD n0_aD c0_aD) := HX156.out.cell 0
      have fc165 : w148.cell? ⟨w.heap.size, 1, none⟩ = some (.int .i64 z1_aD) := HX156.out.cell 1
      have fc166 : w148.cell? ⟨w63.heap.size, 0, none⟩ = some (.slice A0_v62 n0_v62 c0_v62) := HX157.out.cell 0
      have fc167 : w148.cell? ⟨w63.heap.size, 1, none⟩ = some (.int .i64 (d_aD.2)) := HX157.out.cell 1
      go_wp2_with fail
      refine (L_toIntS _ _ _ _ (RdIntS.below Ha_aThings.out HB158.out) HB158.out.size hs_aThings).mono ?_
      rintro e w160 ⟨v159, rfl, hx168, hy169⟩
      have z163 : w148.heap.size ≤ w160.heap.size := hy169.size
      have HO161 := Lib.hid hx168
      have HS162 := Lib.hid hy169
      clear hx168 hy169
      clear fc164 fc165 fc166 fc167
      have HO170 := Lib.hid (HO151.out.below HS162.out (by omega))
      clear HO151
      have HO171 := Lib.hid (HO152.out.below HS162.out (by omega))
      clear HO152
      have HO172 := Lib.hid (HO153.out.below HS162.out (by omega))
      clear HO153
      have HO173 := Lib.hid (HO154.out.below HS162.out (by omega))
      clear HO154
      have HO174 := Lib.hid (HO155.out.below HS162.out (by omega))
      clear HO155
      have HX175 := Lib.hid (HX156.out.below HS162.out HX156.out.lt)
      clear HX156
      have HX176 := Lib.hid (HX157.out.below HS162.out HX157.out.lt)
      clear HX157
      have HB177 : Hid (Below w.heap.size w w160) := Lib.hid (HB158.out.trans (HS162.out.mono (by omega)))
      clear HB158
      clear HS162
      have fc180 : w160.cell? ⟨w.heap.size, 0, none⟩ = some (.slice A0_aD n0_aD c0_aD) := HX175.out.cell 0
      have fc181 : w160.cell? ⟨w.heap.size, 1, none⟩ = some (.int .i64 z1_aD) := HX175.out.cell 1
      have fc182 : w160.cell? ⟨w63.heap.size, 0, none⟩ = some (.slice A0_v62 n0_v62 c0_v62) := HX176.out.cell 0
      have fc183 : w160.cell? ⟨w63.heap.size, 1, none⟩ = some (.int .i64 (d_aD.2)) := HX176.out.cell 1
      go_wp2_with fail
      refine (L_eqIntS _ _ _ _ _ _ HO172.out.rd HO161.out.rd (by omega) (by omega) HO172.out.small).mono ?_
      rintro e w178 ⟨rfl, hx179⟩
      have z184 : w160.heap.size ≤ w178.heap.size := hx179.size
      have HS185 := Lib.hid hx179
      clear hx179
      clear fc180 fc181 fc182 fc183
      have HO186 := Lib.hid (HO170.out.below HS185.out (by omega))
      clear HO170
      have HO187 := Lib.hid (HO171.out.below HS185.out (by omega))
      clear HO171
      have HO188 := Lib.hid (HO172.out.below HS185.out (by omega))
      clear HO172
      have HO189 := Lib.hid (HO173.out.below HS185.out (by omega))
      clear HO173
      have HO190 := Lib.hid (HO174.out.below HS185.out (by omega))
      clear HO174
      have HO191 := Lib.hid (HO161.out.below HS185.out (by omega))
      clear HO161
      have HX192 := Lib.hid (HX175.out.below HS185.out HX175.out.lt)
      clear HX175
      have HX193 := Lib.hid (HX176.out.below HS185.out HX176.out.lt)
      clear HX176
      have HB194 : Hid (Below w.heap.size w w178) := Lib.hid (HB177.out.trans (HS185.out.mono (by omega)))
      clear HB177
      clear HS185
      clear HO191
      have fc200 : w178.cell? ⟨w.heap.size, 0, none⟩ = some (.slice A0_aD n0_aD c0_aD) := HX192.out.cell 0
      have fc201 : w178.cell? ⟨w.heap.size, 1, none⟩ = some (.int .i64 z1_aD) := HX192.out.cell 1
      have fc202 : w178.cell? ⟨w63.heap.size, 0, none⟩ = some (.slice A0_v62 n0_v62 c0_v62) := HX193.out.cell 0
      have fc203 : w178.cell? ⟨w63.heap.size, 1, none⟩ = some (.int .i64 (d_aD.2)) := HX193.out.cell 1
      go_wp2_with fail
      refine (L_toIntS _ _ _ _ (RdIntS.below Ha_aOthers.out HB194.out) HB194.out.size hs_aOthers).mono ?_
      rintro e w196 ⟨v195, rfl, hx204, hy205⟩
      have z199 : w178.heap.size ≤ w196.heap.size := hy205.size
      have HO197 := Lib.hid hx204
      have HS198 := Lib.hid hy205
      clear hx204 hy205
      clear fc200 fc201 fc202 fc203
      have HO206 := Lib.hid (HO186.out.below HS198.out (by omega))
      clear HO186
      have HO207 := Lib.hid (HO187.out.below HS198.out (by omega))
      clear HO187
      have HO208 := Lib.hid (HO188.out.below HS198.out (by omega))
      clear HO188
      have HO209 := Lib.hid (HO189.out.below HS198.out (by omega))
      clear HO189
      have HO210 := Lib.hid (HO190.out.below HS198.out (by omega))
      clear HO190
      have HX211 := Lib.hid (HX192.out.below HS198.out HX192.out.lt)
      clear HX192
      have HX212 := Lib.hid (HX193.out.below HS198.out HX193.out.lt)
      clear HX193
      have HB213 : Hid (Below w.heap.size w w196) := Lib.hid (HB194.out.trans (HS198.out.mono (by omega)))
      clear HB194
      clear HS198
      have fc216 : w196.cell? ⟨w.heap.size, 0, none⟩ = some (.slice A0_aD n0_aD c0_aD) := HX211.out.cell 0
      have fc217 : w196.cell? ⟨w.heap.size, 1, none⟩ = some (.int .i64 z1_aD) := HX211.out.cell 1
      have fc218 : w196.cell? ⟨w63.heap.size, 0, none⟩ = some (.slice A0_v62 n0_v62 c0_v62) := HX212.out.cell 0
      have fc219 : w196.cell? ⟨w63.heap.size, 1, none⟩ = some (.int .i64 (d_aD.2)) := HX212.out.cell 1
      go_wp2_with fail
      refine (L_eqIntS _ _ _ _ _ _ HO209.out.rd HO197.out.rd (by omega) (by omega) HO209.out.small).mono ?_
      rintro e w214 ⟨rfl, hx215⟩
      have z220 : w196.heap.size ≤ w214.heap.size := hx215.size
      have HS221 := Lib.hid hx215
      clear hx215
      clear fc216 fc217 fc218 fc219
      have HO222 := Lib.hid (HO206.out.below HS221.out (by omega))
      clear HO206
      have HO223 := Lib.hid (HO207.out.below HS221.out (by omega))
      clear HO207
      have HO224 := Lib.hid (HO208.out.below HS221.out (by omega))
      clear HO208
      have HO225 := Lib.hid (HO209.out.below HS221.out (by omega))
      clear HO209
      have HO226 := Lib.hid (HO210.out.below HS221.out (by omega))
      clear HO210
      have HO227 := Lib.hid (HO197.out.below HS221.out (by omega))
      clear HO197
      have HX228 := Lib.hid (HX211.out.below HS221.out HX211.out.lt)
      clear HX211
      have HX229 := Lib.hid (HX212.out.below HS221.out HX212.out.lt)
      clear HX212
      have HB230 : Hid (Below w.heap.size w w214) := Lib.hid (HB213.out.trans (HS221.out.mono (by omega)))
      clear HB213
      clear HS221
      clear HO227
      have fc239 : w214.cell? ⟨w.heap.size, 0, none⟩ = some (.slice A0_aD n0_aD c0_aD) := HX228.out.cell 0
      have fc240 : w214.cell? ⟨w.heap.size, 1, none⟩ = some (.int .i64 z1_aD) := HX228.out.cell 1
      have fc241 : w214.cell? ⟨w63.heap.size, 0, none⟩ = some (.slice A0_v62 n0_v62 c0_v62) := HX229.out.cell 0
      have fc242 : w214.cell? ⟨w63.heap.size, 1, none⟩ = some (.int .i64 (d_aD.2)) := HX229.out.cell 1
      go_wp2_with fail
      refine (L_markDeal _ _ _ _ _ _ HO223.out (by omega) (by omega) (by omega)).mono ?_
      rintro e w231 ⟨K232, rfl, hk233, h0_234, h1_235, hx236, hy237⟩
      have z238 : w214.heap.size ≤ w231.heap.size := hy237.size
      have HO243 := Lib.hid hx236
      have HS244 := Lib.hid hy237
      clear hx236 hy237
      clear fc239 fc240 fc241 fc242
      have HO245 := Lib.hid (HO222.out.kept HS244.out (by omega) (by omega))
      clear HO222
      have HO246 := Lib.hid (HO224.out.kept HS244.out (by omega) (by omega))
      clear HO224
      have HO247 := Lib.hid (HO225.out.kept HS244.out (by omega) (by omega))
      clear HO225
      have HO248 := Lib.hid (HO226.out.kept HS244.out (by omega) (by omega))
      clear HO226
      have HX249 := Lib.hid (HX228.out.kept HS244.out (by omega))
      clear HX228
      have HX250 := Lib.hid (HX229.out.kept HS244.out (by omega))
      clear HX229
      have HB251 : Hid (Below w.heap.size w w231) := Lib.hid (HB230.out.trans ((HS244.out.to_below (by omega)).mono (by omega)))
      clear HB230
      clear HS244 HO223
      have fc260 : w231.cell? ⟨w.heap.size, 0, none⟩ = some (.slice A0_aD n0_aD c0_aD) := HX249.out.cell 0
      have fc261 : w231.cell? ⟨w.heap.size, 1, none⟩ = some (.int .i64 z1_aD) := HX249.out.cell 1
      have fc262 : w231.cell? ⟨w63.heap.size, 0, none⟩ = some (.slice A0_v62 n0_v62 c0_v62) := HX250.out.cell 0
      have fc263 : w231.cell? ⟨w63.heap.size, 1, none⟩ = some (.int .i64 (d_aD.2)) := HX250.out.cell 1
      go_wp2_with fail
      refine (L_markIntS _ _ _ _ _ _ HO246.out (by omega) (by omega) (by omega)).mono ?_
      rintro e w252 ⟨K253, rfl, hk254, h0_255, h1_256, hx257, hy258⟩
      have z259 : w231.heap.size ≤ w252.heap.size := hy258.size
      have HO264 := Lib.hid hx257
      have HS265 := Lib.hid hy258
      clear hx257 hy258
      clear fc260 fc261 fc262 fc263
      have HO266 := Lib.hid (HO245.out.kept HS265.out (by omega) (by omega))
      clear HO245
      have HO267 := Lib.hid (HO243.out.kept HS265.out (by omega) (by omega))
      clear HO243
      have HO268 := Lib.hid (HO247.out.kept HS265.out (by omega) (by omega))
      clear HO247
      have HO269 := Lib.hid (HO248.out.kept HS265.out (by omega) (by omega))
      clear HO248
      have HX270 := Lib.hid (HX249.out.kept HS265.out (by omega))
      clear HX249
      have HX271 := Lib.hid (HX250.out.kept HS265.out (by omega))
      clear HX250
      have HB272 : Hid (Below w.heap.size w w252) := Lib.hid (HB251.out.trans ((HS265.out.to_below (by omega)).mono (by omega)))
      clear HB251
      clear HS265 HO246
      have fc281 : w252.cell? ⟨w.heap.size, 0, none⟩ = some (.slice A0_aD n0_aD c0_aD) := HX270.out.cell 0
      have fc282 : w252.cell? ⟨w.heap.size, 1, none⟩ = some (.int .i64 z1_aD) := HX270.out.cell 1
      have fc283 : w252.cell? ⟨w63.heap.size, 0, none⟩ = some (.slice A0_v62 n0_v62 c0_v62) := HX271.out.cell 0
      have fc284 : w252.cell? ⟨w63.heap.size, 1, none⟩ = some (.int .i64 (d_aD.2)) := HX271.out.cell 1
      go_wp2_with fail
      refine (L_markIntS _ _ _ _ _ _ HO268.out (by omega) (by omega) (by omega)).mono ?_
      rintro e w273 ⟨K274, rfl, hk275, h0_276, h1_277, hx278, hy279⟩
      have z280 : w252.heap.size ≤ w273.heap.size := hy279.size
      have HO285 := Lib.hid hx278
      have HS286 := Lib.hid hy279
      clear hx278 hy279
      clear fc281 fc282 fc283 fc284
      have HO287 := Lib.hid (HO266.out.kept HS286.out (by omega) (by omega))
      clear HO266
      have HO288 := Lib.hid (HO267.out.kept HS286.out (by omega) (by omega))
      clear HO267
      have HO289 := Lib.hid (HO264.out.kept HS286.out (by omega) (by omega))
      clear HO264
      have HO290 := Lib.hid (HO269.out.kept HS286.out (by omega) (by omega))
      clear HO269
      have HX291 := Lib.hid (HX270.out.kept HS286.out (by omega))
      clear HX270
      have HX292 := Lib.hid (HX271.out.kept HS286.out (by omega))
      clear HX271
      have HB293 : Hid (Below w.heap.size w w273) := Lib.hid (HB272.out.trans ((HS286.out.to_below (by omega)).mono (by omega)))
      clear HB272
      clear HS286 HO268
      clear HO288
      clear HO289
      clear HO285
      have fc296 : w273.cell? ⟨w.heap.size, 0, none⟩ = some (.slice A0_aD n0_aD c0_aD) := HX291.out.cell 0
      have fc297 : w273.cell? ⟨w.heap.size, 1, none⟩ = some (.int .i64 z1_aD) := HX291.out.cell 1
      have fc298 : w273.cell? ⟨w63.heap.size, 0, none⟩ = some (.slice A0_v62 n0_v62 c0_v62) := HX292.out.cell 0
      have fc299 : w273.cell? ⟨w63.heap.size, 1, none⟩ = some (.int .i64 (d_aD.2)) := HX292.out.cell 1
      go_wp2_with fail
      refine (L_eqIntS _ _ _ _ _ _ HO290.out.rd HO287.out.rd (by omega) (by omega) HO290.out.small).mono ?_
      rintro e w294 ⟨rfl, hx295⟩
      have z300 : w273.heap.size ≤ w294.heap.size := hx295.size
      have HS301 := Lib.hid hx295
      clear hx295
      clear fc296 fc297 fc298 fc299
      have HO302 := Lib.hid (HO287.out.below HS301.out (by omega))
      clear HO287
      have HO303 := Lib.hid (HO290.out.below HS301.out (by omega))
      clear HO290
      have HX304 := Lib.hid (HX291.out.below HS301.out HX291.out.lt)
      clear HX291
      have HX305 := Lib.hid (HX292.out.below HS301.out HX292.out.lt)
      clear HX292
      have HB306 : Hid (Below w.heap.size w w294) := Lib.hid (HB293.out.trans (HS301.out.mono (by omega)))
      clear HB293
      clear HS301
      have hs307 := HO303.out.small
      have fc316 : w294.cell? ⟨w.heap.size, 0, none⟩ = some (.slice A0_aD n0_aD c0_aD) := HX304.out.cell 0
      have fc317 : w294.cell? ⟨w.heap.size, 1, none⟩ = some (.int .i64 z1_aD) := HX304.out.cell 1
      have fc318 : w294.cell? ⟨w63.heap.size, 0, none⟩ = some (.slice A0_v62 n0_v62 c0_v62) := HX305.out.cell 0
      have fc319 : w294.cell? ⟨w63.heap.size, 1, none⟩ = some (.int .i64 (d_aD.2)) := HX305.out.cell 1
      go_wp2_with fail
      refine (L_markIntS _ _ _ _ _ _ HO303.out (by omega) (by omega) (by omega)).mono ?_
      rintro e w308 ⟨K309, rfl, hk310, h0_311, h1_312, hx313, hy314⟩
      have z315 : w294.heap.size ≤ w308.heap.size := hy314.size
      have HO320 := Lib.hid hx313
      have HS321 := Lib.hid hy314
      clear hx313 hy314
      clear fc316 fc317 fc318 fc319
      have HO322 := Lib.hid (HO302.out.kept HS321.out (by omega) (by omega))
      clear HO302
      have HX323 := Lib.hid (HX304.out.kept HS321.out (by omega))
      clear HX304
      have HX324 := Lib.hid (HX305.out.kept HS321.out (by omega))
      clear HX305
      have HB325 : Hid (Below w.heap.size w w308) := Lib.hid (HB306.out.trans ((HS321.out.to_below (by omega)).mono (by omega)))
      clear HB306
      clear HS321 HO303
      have fc332 : w308.cell? ⟨w.heap.size, 0, none⟩ = some (.slice A0_aD n0_aD c0_aD) := HX323.out.cell 0
      have fc333 : w308.cell? ⟨w.heap.size, 1, none⟩ = some (.int .i64 z1_aD) := HX323.out.cell 1
      have fc334 : w308.cell? ⟨w63.heap.size, 0, none⟩ = some (.slice A0_v62 n0_v62 c0_v62) := HX324.out.cell 0
      have fc335 : w308.cell? ⟨w63.heap.size, 1, none⟩ = some (.int .i64 (d_aD.2)) := HX324.out.cell 1
      go_wp2_with fail
      refine (L_heldIntS _ _ (R_ChoiceMasks_0 d_aD aChoice d_aThings d_aOthers) 1 _ _ HO320.out.rd (by omega) hs307 (Lib.hid rfl) (by omega) (by omega)).mono ?_
      rintro e w326 ⟨K327, rfl, hk328, h0_329, h1_330, hx331⟩
      have z336 : w308.heap.size ≤ w326.heap.size := hx331.size
      have HS337 := Lib.hid hx331
      clear hx331
      have HE338 : Hid (K327 = K309) := Lib.hid (by rw [hk328.out, hk310.out])
      have hne339 : (K327 != K309) = false := by rw [HE338.out]; simp
      clear fc332 fc333 fc334 fc335
      have HO340 := Lib.hid (HO322.out.below HS337.out (by omega))
      clear HO322
      have HO341 := Lib.hid (HO320.out.below HS337.out (by omega))
      clear HO320
      have HX342 := Lib.hid (HX323.out.below HS337.out HX323.out.lt)
      clear HX323
      have HX343 := Lib.hid (HX324.out.below HS337.out HX324.out.lt)
      clear HX324
      have HB344 : Hid (Below w.heap.size w w326) := Lib.hid (HB325.out.trans (HS337.out.mono (by omega)))
      clear HB325
      clear HS337
      have fc350 : w326.cell? ⟨w.heap.size, 0, none⟩ = some (.slice A0_aD n0_aD c0_aD) := HX342.out.cell 0
      have fc351 : w326.cell? ⟨w.heap.size, 1, none⟩ = some (.int .i64 z1_aD) := HX342.out.cell 1
      have fc352 : w326.cell? ⟨w63.heap.size, 0, none⟩ = some (.slice A0_v62 n0_v62 c0_v62) := HX343.out.cell 0
      have fc353 : w326.cell? ⟨w63.heap.size, 1, none⟩ = some (.int .i64 (d_aD.2)) := HX343.out.cell 1
      go_wp2_with fail
      refine (L_toDeal _ _ _ _ (RdDeal.below Ha_aD.out HB344.out) HB344.out.size hs_aD).mono ?_
      rintro e w346 ⟨v345, rfl, hx354, hy355⟩
      have z349 : w326.heap.size ≤ w346.heap.size := hy355.size
      obtain ⟨A0_v345, n0_v345, c0_v345, hv356⟩ : ∃ A0_v345 n0_v345 c0_v345, v345 = .agg #[.slice A0_v345 n0_v345 c0_v345, .int .i64 (d_aD.2)] := by obtain ⟨_, _, _, _, _, _, rfl, _⟩ := hx354; exact ⟨_, _, _, rfl⟩
      subst hv356
      have HO347 := Lib.hid hx354
      have HS348 := Lib.hid hy355
      clear hx354 hy355
      clear fc350 fc351 fc352 fc353
      have HO357 := Lib.hid (HO340.out.below HS348.out (by omega))
      clear HO340
      have HO358 := Lib.hid (HO341.out.below HS348.out (by omega))
      clear HO341
      have HX359 := Lib.hid (HX342.out.below HS348.out HX342.out.lt)
      clear HX342
      have HX360 := Lib.hid (HX343.out.below HS348.out HX343.out.lt)
      clear HX343
      have HB361 : Hid (Below w.heap.size w w346) := Lib.hid (HB344.out.trans (HS348.out.mono (by omega)))
      clear HB344
      clear HS348
      have fc367 : w346.cell? ⟨w.heap.size, 0, none⟩ = some (.slice A0_aD n0_aD c0_aD) := HX359.out.cell 0
      have fc368 : w346.cell? ⟨w.heap.size, 1, none⟩ = some (.int .i64 z1_aD) := HX359.out.cell 1
      have fc369 : w346.cell? ⟨w63.heap.size, 0, none⟩ = some (.slice A0_v62 n0_v62 c0_v62) := HX360.out.cell 0
      have fc370 : w346.cell? ⟨w63.heap.size, 1, none⟩ = some (.int .i64 (d_aD.2)) := HX360.out.cell 1
      go_wp2_with fail
      refine (L_toIntS _ _ _ _ (RdIntS.below Ha_aThings.out HB361.out) HB361.out.size hs_aThings).mono ?_
      rintro e w363 ⟨v362, rfl, hx371, hy372⟩
      have z366 : w346.heap.size ≤ w363.heap.size := hy372.size
      have HO364 := Lib.hid hx371
      have HS365 := Lib.hid hy372
      clear hx371 hy372
      clear fc367 fc368 fc369 fc370
      have HO373 := Lib.hid (HO357.out.below HS365.out (by omega))
      clear HO357
      have HO374 := Lib.hid (HO358.out.below HS365.out (by omega))
      clear HO358
      have HO375 := Lib.hid (HO347.out.below HS365.out (by omega))
      clear HO347
      have HX376 := Lib.hid (HX359.out.below HS365.out HX359.out.lt)
      clear HX359
      have HX377 := Lib.hid (HX360.out.below HS365.out HX360.out.lt)
      clear HX360
      have HB378 : Hid (Below w.heap.size w w363) := Lib.hid (HB361.out.trans (HS365.out.mono (by omega)))
      clear HB361
      clear HS365
      have fc384 : w363.cell? ⟨w.heap.size, 0, none⟩ = some (.slice A0_aD n0_aD c0_aD) := HX376.out.cell 0
      have fc385 : w363.cell? ⟨w.heap.size, 1, none⟩ = some (.int .i64 z1_aD) := HX376.out.cell 1
      have fc386 : w363.cell? ⟨w63.heap.size, 0, none⟩ = some (.slice A0_v62 n0_v62 c0_v62) := HX377.out.cell 0
      have fc387 : w363.cell? ⟨w63.heap.size, 1, none⟩ = some (.int .i64 (d_aD.2)) := HX377.out.cell 1
      go_wp2_with fail
      refine (L_toIntS _ _ _ _ (RdIntS.below Ha_aOthers.out HB378.out) HB378.out.size hs_aOthers).mono ?_
      rintro e w380 ⟨v379, rfl, hx388, hy389⟩
      have z383 : w363.heap.size ≤ w380.heap.size := hy389.size
      have HO381 := Lib.hid hx388
      have HS382 := Lib.hid hy389
      clear hx388 hy389
      clear fc384 fc385 fc386 fc387
      have HO390 := Lib.hid (HO373.out.below HS382.out (by omega))
      clear HO373
      have HO391 := Lib.hid (HO374.out.below HS382.out (by omega))
      clear HO374
      have HO392 := Lib.hid (HO375.out.below HS382.out (by omega))
      clear HO375
      have HO393 := Lib.hid (HO364.out.below HS382.out (by omega))
      clear HO364
      have HX394 := Lib.hid (HX376.out.below HS382.out HX376.out.lt)
      clear HX376
      have HX395 := Lib.hid (HX377.out.below HS382.out HX377.out.lt)
      clear HX377
      have HB396 : Hid (Below w.heap.size w w380) := Lib.hid (HB378.out.trans (HS382.out.mono (by omega)))
      clear HB378
      clear HS382
      have fc397 : w380.cell? ⟨w.heap.size, 0, none⟩ = some (.slice A0_aD n0_aD c0_aD) := HX394.out.cell 0
      have fc398 : w380.cell? ⟨w.heap.size, 1, none⟩ = some (.int .i64 z1_aD) := HX394.out.cell 1
      have fc399 : w380.cell? ⟨w63.heap.size, 0, none⟩ = some (.slice A0_v62 n0_v62 c0_v62) := HX395.out.cell 0
      have fc400 : w380.cell? ⟨w63.heap.size, 1, none⟩ = some (.int .i64 (d_aD.2)) := HX395.out.cell 1
      go_wp2_with fail
      refine (X_i_ChoiceMasks _ _ _ d_aD aChoice d_aThings d_aOthers _ (HO392.out.rd.more (by omega)) (HO393.out.rd.more (by omega)) (HO381.out.rd.more (by omega)) hs_aD hs_aThings hs_aOthers).mono ?_
      rintro e w401 ⟨h0_w401, rfl, hx402, hy403⟩
      have z404 : w380.heap.size ≤ w401.heap.size := hy403.size
      have HO405 := Lib.hid hx402
      clear hx402
      have HS406 := Lib.hid hy403
      clear hy403
      clear fc397 fc398 fc399 fc400
      have HO407 := Lib.hid (HO390.out.below HS406.out (by omega))
      clear HO390
      have HO408 := Lib.hid (HO391.out.below HS406.out (by omega))
      clear HO391
      have HO409 := Lib.hid (HO392.out.below HS406.out (by omega))
      clear HO392
      have HO410 := Lib.hid (HO393.out.below HS406.out (by omega))
      clear HO393
      have HO411 := Lib.hid (HO381.out.below HS406.out (by omega))
      clear HO381
      have HX412 := Lib.hid (HX394.out.below HS406.out HX394.out.lt)
      clear HX394
      have HX413 := Lib.hid (HX395.out.below HS406.out HX395.out.lt)
      clear HX395
      have HB414 : Hid (Below w.heap.size w w401) := Lib.hid (HB396.out.trans (HS406.out.mono (by omega)))
      clear HB396
      clear HS406
      clear HO409
      clear HO410
      clear HO411
      have fc417 : w401.cell? ⟨w.heap.size, 0, none⟩ = some (.slice A0_aD n0_aD c0_aD) := HX412.out.cell 0
      have fc418 : w401.cell? ⟨w.heap.size, 1, none⟩ = some (.int .i64 z1_aD) := HX412.out.cell 1
      have fc419 : w401.cell? ⟨w63.heap.size, 0, none⟩ = some (.slice A0_v62 n0_v62 c0_v62) := HX413.out.cell 0
      have fc420 : w401.cell? ⟨w63.heap.size, 1, none⟩ = some (.int .i64 (d_aD.2)) := HX413.out.cell 1
      go_wp2_with fail
      refine (L_eqIntS _ _ _ _ _ _ HO405.out.rd HO407.out.rd (by omega) (by omega) HO405.out.small).mono ?_
      rintro e w415 ⟨rfl, hx416⟩
      have z421 : w401.heap.size ≤ w415.heap.size := hx416.size
      have HS422 := Lib.hid hx416
      clear hx416
      clear fc417 fc418 fc419 fc420
      have HO423 := Lib.hid (HO407.out.below HS422.out (by omega))
      clear HO407
      have HO424 := Lib.hid (HO408.out.below HS422.out (by omega))
      clear HO408
      have HO425 := Lib.hid (HO405.out.below HS422.out (by omega))
      clear HO405
      have HX426 := Lib.hid (HX412.out.below HS422.out HX412.out.lt)
      clear HX412
      have HX427 := Lib.hid (HX413.out.below HS422.out HX413.out.lt)
      clear HX413
      have HB428 : Hid (Below w.heap.size w w415) := Lib.hid (HB414.out.trans (HS422.out.mono (by omega)))
      clear HB414
      clear HS422
      have fc435 : w415.cell? ⟨w.heap.size, 0, none⟩ = some (.slice A0_aD n0_aD c0_aD) := HX426.out.cell 0
      have fc436 : w415.cell? ⟨w.heap.size, 1, none⟩ = some (.int .i64 z1_aD) := HX426.out.cell 1
      have fc437 : w415.cell? ⟨w63.heap.size, 0, none⟩ = some (.slice A0_v62 n0_v62 c0_v62) := HX427.out.cell 0
      have fc438 : w415.cell? ⟨w63.heap.size, 1, none⟩ = some (.int .i64 (d_aD.2)) := HX427.out.cell 1
      go_wp2_with fail
      refine (L_heldIntS _ _ (R_ChoiceMasks_0 d_aD aChoice d_aThings d_aOthers) 1 _ _ HO424.out.rd (by omega) hs307 (Lib.hid rfl) (by omega) (by omega)).mono ?_
      rintro e w429 ⟨K430, rfl, hk431, h0_432, h1_433, hx434⟩
      have z439 : w415.heap.size ≤ w429.heap.size := hx434.size
      have HS440 := Lib.hid hx434
      clear hx434
      have HE441 : Hid (K430 = K309) := Lib.hid (by rw [hk431.out, hk310.out])
      have hne442 : (K430 != K309) = false := by rw [HE441.out]; simp
      clear fc435 fc436 fc437 fc438
      have HO443 := Lib.hid (HO423.out.below HS440.out (by omega))
      clear HO423
      have HO444 := Lib.hid (HO424.out.below HS440.out (by omega))
      clear HO424
      have HO445 := Lib.hid (HO425.out.below HS440.out (by omega))
      clear HO425
      have HX446 := Lib.hid (HX426.out.below HS440.out HX426.out.lt)
      clear HX426
      have HX447 := Lib.hid (HX427.out.below HS440.out HX427.out.lt)
      clear HX427
      have HB448 : Hid (Below w.heap.size w w429) := Lib.hid (HB428.out.trans (HS440.out.mono (by omega)))
      clear HB428
      clear HS440
      go_wp2
      go_ret
      exact ⟨rfl, HB448.out⟩
    · have hn_aOthers : ¬ n_aOthers ≤ 1048576 := by have := h_aOthers.len; unfold szIntS at hs_aOthers; omega
      go_enter Try.func16, Try.ntmps16
      go_wp2
      go_ret
      exact ⟨rfl, by first | exact Below.refl _ _ | exact (Below.refl _ _).alloc (Nat.le_refl _) _ | exact ((Below.refl _ _).alloc (Nat.le_refl _) _).alloc (by simp) _⟩
  · have hn_aThings : ¬ n_aThings ≤ 1048576 := by have := h_aThings.len; unfold szIntS at hs_aThings; omega
    go_enter Try.func16, Try.ntmps16
    go_wp2
    go_ret
    exact ⟨rfl, by first | exact Below.refl _ _ | exact (Below.refl _ _).alloc (Nat.le_refl _) _ | exact ((Below.refl _ _).alloc (Nat.le_refl _) _).alloc (by simp) _⟩

set_option maxRecDepth 100000 in
theorem lifted (os : Os) (started : os.Started) (H : Type) (enc : TypeId × Value → H) :
    ReturnsInHanded {} Try.checked os 16 .any (Rows.fnExactChoiceMasksSpec.pre6 enc Try.prog Try.f16 Rows.fnExactChoiceMasksRow.domain false) (Rows.fnExactChoiceMasksSpec.post enc Try.prog Try.f16 false true false false) := by
  refine returnsInHanded_of_change (C := Try.checked) own started (by kernel_rfl) Try.func16
    (ChangeSpec.witness6 (enc := enc) (C := Try.checked) false ⟨#[], #[.agg #[.slice none 0 0, .int .i64 0], .int .i64 0, .slice none 0 0, .slice none 0 0], []⟩ 8 (by kernel_rfl) (by kernel_rfl) (by kernel_rfl) (by kernel_rfl)) ?_
  intro W base args ds gs before hval0 hW hcnd _
  have hval : ∀ (j : Nat) t v, Try.f16.params[j]? = some t → args[j]? = some v → Value.okWide Try.prog W .any base t v := hval0
  have hW' := hW
  obtain ⟨p, q, hA0, hV, rfl, hfz, hnd⟩ := hW
  have hA : DataW.TrodAll enc Try.prog W 0 (fun _ => true) true Try.f16.params.toList args.toList ds p := hA0
  rw [Try.params16] at hA hval
  obtain ⟨v0, vs0, dd0, ds0, p0, q0, hargs, rfl, rfl, h0, r0⟩ := trodAll_cons hA
  obtain ⟨v1, vs1, dd1, ds1, p1, q1, rfl, rfl, rfl, h1, r1⟩ := trodAll_cons r0
  obtain ⟨v2, vs2, dd2, ds2, p2, q2, rfl, rfl, rfl, h2, r2⟩ := trodAll_cons r1
  obtain ⟨v3, vs3, dd3, ds3, p3, q3, rfl, rfl, rfl, h3, r3⟩ := trodAll_cons r2
  obtain ⟨rfl, rfl, rfl⟩ := trodAll_nil r3
  obtain rfl : args = #[v0, v1, v2, v3] := by cases args; simp_all
  obtain ⟨rfl, rfl⟩ := trodVars_none hV
  obtain ⟨u0_aD, u1_aD, y0_aD, y1_aD, fz_aD, rfl, rfl, rfl, g0_aD, g1_aD⟩ := Go.Joins.open_agg2 Try.underlying50 (by kernel_rfl) (by kernel_rfl) (hval 0 50 v0 rfl rfl) h0
  obtain ⟨A0_aD, n0_aD, c0_aD, d0_aD, rfl, h0_aD⟩ := field_IntS Try.underlying22 Try.underlying3 (by kernel_rfl) g0_aD
  obtain ⟨z1_aD, rfl, _⟩ := field_int Try.underlying3 g1_aD
  obtain ⟨aChoice, rfl, rfl, rfl, w_aChoice⟩ := open_int Try.underlying3 (hval 1 3 v1 rfl rfl) h1
  obtain ⟨A_aThings, n_aThings, c_aThings, d_aThings, rfl, hm_aThings, h_aThings⟩ := open_intS Try.underlying22 Try.underlying3 (by kernel_rfl) (hval 2 22 v2 rfl rfl) h2
  obtain ⟨A_aOthers, n_aOthers, c_aOthers, d_aOthers, rfl, hm_aOthers, h_aOthers⟩ := open_intS Try.underlying22 Try.underlying3 (by kernel_rfl) (hval 3 22 v3 rfl rfl) h3
  refine (walk A0_aD n0_aD c0_aD d0_aD z1_aD aChoice A_aThings n_aThings c_aThings d_aThings A_aOthers n_aOthers c_aOthers d_aOthers W h0_aD w_aChoice hm_aThings h_aThings hm_aOthers h_aOthers).mono fun e W' ⟨he, hb⟩ => ?_
  subst he
  exact ⟨_, rfl, post_law rfl rfl Try.underlying4 (by kernel_rfl) (by kernel_rfl) hW' rfl hb⟩

theorem closed : joinedFacts Try.prog 16 Try.f16 Rows.fnExactChoiceMasksSpec Rows.fnExactChoiceMasksRow = true := joined_of (by kernel_rfl)
theorem over : Rows.fnExactChoiceMasksRow.holds Try.pinned (OpenSpec.ofChange Rows.fnExactChoiceMasksSpec) :=
  OpenClaim.holds_of_wide 16 Try.f16 rfl rfl rfl rfl rfl rfl rfl ⟨rfl, rfl, rfl, rfl, rfl⟩ rfl rfl rfl rfl rfl (by kernel_rfl) Try.func16 closed
    (of_decide_eq_true (by kernel_rfl)) (by unfold Func.isWrapper; first | (rw [if_pos (by decide +kernel)]; kernel_rfl) | (rw [if_neg (by decide +kernel)]; exact ⟨rfl, rfl⟩))
    (fun os started H enc _ => lifted os started H enc)
/-- the statement -/
theorem proved : Rows.FnExactChoiceMasksSaid :=
  over
end Go.Proofs.Ythfkjaofgpgoeaa.fnExactChoiceMasks
