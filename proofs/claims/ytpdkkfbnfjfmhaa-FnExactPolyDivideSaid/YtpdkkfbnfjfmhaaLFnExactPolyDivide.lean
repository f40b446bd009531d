/- FnExactPolyDivide answers true at every input: at each argument the function and its model answer alike, no argument is written, and the answer owns its memory. No condition. -/
import Derived.Test.YtpdkkfbnfjfmhaaRows
import Derived.Test.YtpdkkfbnfjfmhaaLaw
import Derived.Test.YtpdkkfbnfjfmhaaFace2c
namespace Go.Proofs.Ytpdkkfbnfjfmhaa.fnExactPolyDivide
open Go.ChangeShapes Go.WideShapes Go.ChangeAt Go.RowKit
theorem own : ownKnob Try.prog.godebug = none := by kernel_rfl
set_option maxRecDepth 100000 in
set_option maxHeartbeats 4000000 in
theorem walk (A_aA : Option Addr) (n_aA c_aA : Nat) (d_aA : List Int) (A_aB : Option Addr) (n_aB c_aB : Nat) (d_aB : List Int) (w : World) (hm_aA : n_aA ≤ 9223372036854775807) (h_aA : Rd w w.heap.size 1 A_aA n_aA (cI d_aA)) (hm_aB : n_aB ≤ 9223372036854775807) (h_aB : Rd w w.heap.size 1 A_aB n_aB (cI d_aB)) :
    Calls Try.prog 7 #[.slice A_aA n_aA c_aA, .slice A_aB n_aB c_aB] w fun e w' => e = .returned (.bool true) ∧ Below w.heap.size w w' := by
  by_cases hs_aA : szIntS d_aA ≤ 1048576
  · have hn_aA : n_aA ≤ 1048576 := by have := h_aA.len; unfold szIntS at hs_aA; omega
    by_cases hs_aB : szIntS d_aB ≤ 1048576
    · have hn_aB : n_aB ≤ 1048576 := by have := h_aB.len; unfold szIntS at hs_aB; omega
      have Ha_aA : Hid (RdIntS w w.heap.size (.slice A_aA n_aA c_aA) d_aA) := Lib.hid (⟨A_aA, n_aA, c_aA, rfl, hm_aA, h_aA⟩)
      have Ha_aB : Hid (RdIntS w w.heap.size (.slice A_aB n_aB c_aB) d_aB) := Lib.hid (⟨A_aB, n_aB, c_aB, rfl, hm_aB, h_aB⟩)
      clear h_aA h_aB
      go_enter Try.func7, Try.ntmps7
      go_wp2_with fail
      refine (L_toIntS _ _ _ _ Ha_aA.out (Nat.le_refl _) hs_aA).mono ?_
      rintro e w2 ⟨v1, rfl, hx6, hy7⟩
      have z5 : w.heap.size ≤ w2.heap.size := hy7.size
      have HO3 := Lib.hid hx6
      have HS4 := Lib.hid hy7
      clear hx6 hy7
      have HB8 : Hid (Below w.heap.size w w2) := Lib.hid (HS4.out.mono (by omega))
      clear HS4
      go_wp2_with fail
      refine (L_toIntS _ _ _ _ (RdIntS.below Ha_aB.out HB8.out) HB8.out.size hs_aB).mono ?_
      rintro e w10 ⟨v9, rfl, hx14, hy15⟩
      have z13 : w2.heap.size ≤ w10.heap.size := hy15.size
      have HO11 := Lib.hid hx14
      have HS12 := Lib.hid hy15
      clear hx14 hy15
      have HO16 := Lib.hid (HO3.out.below HS12.out (by omega))
      clear HO3
      have HB17 : Hid (Below w.heap.size w w10) := Lib.hid (HB8.out.trans (HS12.out.mono (by omega)))
      clear HB8
      clear HS12
      go_wp2_with fail
      refine (X_s_PolyDivide _ _ d_aA d_aB _ (HO16.out.rd.more (by omega)) (HO11.out.rd.more (by omega)) hs_aA hs_aB).mono ?_
      rintro e w18 ⟨w0_w18, w1_w18, mid22, rfl, zm23, zm24, hx19, hx20, hy21⟩
      have z25 : w10.heap.size ≤ w18.heap.size := hy21.size
      have HO26 := Lib.hid hx19
      clear hx19
      have HO27 := Lib.hid hx20
      clear hx20
      have HS28 := Lib.hid hy21
      clear hy21
      have HO29 := Lib.hid (HO16.out.below HS28.out (by omega))
      clear HO16
      have HO30 := Lib.hid (HO11.out.below HS28.out (by omega))
      clear HO11
      have HB31 : Hid (Below w.heap.size w w18) := Lib.hid (HB17.out.trans (HS28.out.mono (by omega)))
      clear HB17
      clear HS28
      clear HO29
      clear HO30
      go_wp2_with fail
      refine (L_toIntS _ _ _ _ (RdIntS.below Ha_aA.out HB31.out) HB31.out.size hs_aA).mono ?_
      rintro e w33 ⟨v32, rfl, hx37, hy38⟩
      have z36 : w18.heap.size ≤ w33.heap.size := hy38.size
      have HO34 := Lib.hid hx37
      have HS35 := Lib.hid hy38
      clear hx37 hy38
      have HO39 := Lib.hid (HO26.out.below HS35.out (by omega))
      clear HO26
      have HO40 := Lib.hid (HO27.out.below HS35.out (by omega))
      clear HO27
      have HB41 : Hid (Below w.heap.size w w33) := Lib.hid (HB31.out.trans (HS35.out.mono (by omega)))
      clear HB31
      clear HS35
      go_wp2_with fail
      refine (L_toIntS _ _ _ _ (RdIntS.below Ha_aB.out HB41.out) HB41.out.size hs_aB).mono ?_
      rintro e w43 ⟨v42, rfl, hx47, hy48⟩
      have z46 : w33.heap.size ≤ w43.heap.size := hy48.size
      have HO44 := Lib.hid hx47
      have HS45 := Lib.hid hy48
      clear hx47 hy48
      have HO49 := Lib.hid (HO39.out.below HS45.out (by omega))
      clear HO39
      have HO50 := Lib.hid (HO40.out.below HS45.out (by omega))
      clear HO40
      have HO51 := Lib.hid (HO34.out.below HS45.out (by omega))
      clear HO34
      have HB52 : Hid (Below w.heap.size w w43) := Lib.hid (HB41.out.trans (HS45.out.mono (by omega)))
      clear HB41
      clear HS45
      go_wp2_with fail
      refine (X_i_PolyDivide _ _ d_aA d_aB _ (HO51.out.rd.more (by omega)) (HO44.out.rd.more (by omega)) hs_aA hs_aB).mono ?_
      rintro e w53 ⟨g0_w53, g1_w53, mid57, rfl, zm58, zm59, hx54, hx55, hy56⟩
      have z60 : w43.heap.size ≤ w53.heap.size := hy56.size
      have HO61 := Lib.hid hx54
      clear hx54
      have HO62 := Lib.hid hx55
      clear hx55
      have HS63 := Lib.hid hy56
      clear hy56
      have HO64 := Lib.hid (HO49.out.below HS63.out (by omega))
      clear HO49
      have HO65 := Lib.hid (HO50.out.below HS63.out (by omega))
      clear HO50
      have HO66 := Lib.hid (HO51.out.below HS63.out (by omega))
      clear HO51
      have HO67 := Lib.hid (HO44.out.below HS63.out (by omega))
      clear HO44
      have HB68 : Hid (Below w.heap.size w w53) := Lib.hid (HB52.out.trans (HS63.out.mono (by omega)))
      clear HB52
      clear HS63
      go_wp2_with fail
      refine (L_eqIntS _ _ _ _ _ _ HO61.out.rd HO64.out.rd (by omega) (by omega) HO61.out.small).mono ?_
      rintro e w69 ⟨rfl, hx70⟩
      have z71 : w53.heap.size ≤ w69.heap.size := hx70.size
      have HS72 := Lib.hid hx70
      clear hx70
      have HO73 := Lib.hid (HO64.out.below HS72.out (by omega))
      clear HO64
      have HO74 := Lib.hid (HO65.out.below HS72.out (by omega))
      clear HO65
      have HO75 := Lib.hid (HO66.out.below HS72.out (by omega))
      clear HO66
      have HO76 := Lib.hid (HO67.out.below HS72.out (by omega))
      clear HO67
      have HO77 := Lib.hid (HO61.out.below HS72.out (by omega))
      clear HO61
      have HO78 := Lib.hid (HO62.out.below HS72.out (by omega))
      clear HO62
      have HB79 : Hid (Below w.heap.size w w69) := Lib.hid (HB68.out.trans (HS72.out.mono (by omega)))
      clear HB68
      clear HS72
      go_wp2_with fail
      refine (L_eqIntS _ _ _ _ _ _ HO78.out.rd HO74.out.rd (by omega) (by omega) HO78.out.small).mono ?_
      rintro e w80 ⟨rfl, hx81⟩
      have z82 : w69.heap.size ≤ w80.heap.size := hx81.size
      have HS83 := Lib.hid hx81
      clear hx81
      have HO84 := Lib.hid (HO73.out.below HS83.out (by omega))
      clear HO73
      have HO85 := Lib.hid (HO74.out.below HS83.out (by omega))
      clear HO74
      have HO86 := Lib.hid (HO75.out.below HS83.out (by omega))
      clear HO75
      have HO87 := Lib.hid (HO76.out.below HS83.out (by omega))
      clear HO76
      have HO88 := Lib.hid (HO77.out.below HS83.out (by omega))
      clear HO77
      have HO89 := Lib.hid (HO78.out.below HS83.out (by omega))
      clear HO78
      have HB90 : Hid (Below w.heap.size w w80) := Lib.hid (HB79.out.trans (HS83.out.mono (by omega)))
      clear HB79
      clear HS83
      go_wp2_with fail
      refine (L_toIntS _ _ _ _ (RdIntS.below Ha_aA.out HB90.out) HB90.out.size hs_aA).mono ?_
      rintro e w92 ⟨v91, rfl, hx96, hy97⟩
      have z95 : w80.heap.size ≤ w92.heap.size := hy97.size
      have HO93 := Lib.hid hx96
      have HS94 := Lib.hid hy97
      clear hx96 hy97
      have HO98 := Lib.hid (HO84.out.below HS94.out (by omega))
      clear HO84
      have HO99 := Lib.hid (HO85.out.below HS94.out (by omega))
      clear HO85
      have HO100 := Lib.hid (HO86.out.below HS94.out (by omega))
      clear HO86
      have HO101 := Lib.hid (HO87.out.below HS94.out (by omega))
      clear HO87
      have HO102 := Lib.hid (HO88.out.below HS94.out (by omega))
      clear HO88
      have HO103 := Lib.hid (HO89.out.below HS94.out (by omega))
      clear HO89
      have HB104 : Hid (Below w.heap.size w w92) := Lib.hid (HB90.out.trans (HS94.out.mono (by omega)))
      clear HB90
      clear HS94
      go_wp2_with fail
      refine (L_eqIntS _ _ _ _ _ _ HO100.out.rd HO93.out.rd (by omega) (by omega) HO100.out.small).mono ?_
      rintro e w105 ⟨rfl, hx106⟩
      have z107 : w92.heap.size ≤ w105.heap.size := hx106.size
      have HS108 := Lib.hid hx106
      clear hx106
      have HO109 := Lib.hid (HO98.out.below HS108.out (by omega))
      clear HO98
      have HO110 := Lib.hid (HO99.out.below HS108.out (by omega))
      clear HO99
      have HO111 := Lib.hid (HO100.out.below HS108.out (by omega))
      clear HO100
      have HO112 := Lib.hid (HO101.out.below HS108.out (by omega))
      clear HO101
      have HO113 := Lib.hid (HO102.out.below HS108.out (by omega))
      clear HO102
      have HO114 := Lib.hid (HO103.out.below HS108.out (by omega))
      clear HO103
      have HO115 := Lib.hid (HO93.out.below HS108.out (by omega))
      clear HO93
      have HB116 : Hid (Below w.heap.size w w105) := Lib.hid (HB104.out.trans (HS108.out.mono (by omega)))
      clear HB104
      clear HS108
      clear HO115
      go_wp2_with fail
      refine (L_toIntS _ _ _ _ (RdIntS.below Ha_aB.out HB116.out) HB116.out.size hs_aB).mono ?_
      rintro e w118 ⟨v117, rfl, hx122, hy123⟩
      have z121 : w105.heap.size ≤ w118.heap.size := hy123.size
      have HO119 := Lib.hid hx122
      have HS120 := Lib.hid hy123
      clear hx122 hy123
      have HO124 := Lib.hid (HO109.out.below HS120.out (by omega))
      clear HO109
      have HO125 := Lib.hid (HO110.out.below HS120.out (by omega))
      clear HO110
      have HO126 := Lib.hid (HO111.out.below HS120.out (by omega))
      clear HO111
      have HO127 := Lib.hid (HO112.out.below HS120.out (by omega))
      clear HO112
      have HO128 := Lib.hid (HO113.out.below HS120.out (by omega))
      clear HO113
      have HO129 := Lib.hid (HO114.out.below HS120.out (by omega))
      clear HO114
      have HB130 : Hid (Below w.heap.size w w118) := Lib.hid (HB116.out.trans (HS120.out.mono (by omega)))
      clear HB116
      clear HS120
      go_wp2_with fail
      refine (L_eqIntS _ _ _ _ _ _ HO127.out.rd HO119.out.rd (by omega) (by omega) HO127.out.small).mono ?_
      rintro e w131 ⟨rfl, hx132⟩
      have z133 : w118.heap.size ≤ w131.heap.size := hx132.size
      have HS134 := Lib.hid hx132
      clear hx132
      have HO135 := Lib.hid (HO124.out.below HS134.out (by omega))
      clear HO124
      have HO136 := Lib.hid (HO125.out.below HS134.out (by omega))
      clear HO125
      have HO137 := Lib.hid (HO126.out.below HS134.out (by omega))
      clear HO126
      have HO138 := Lib.hid (HO127.out.below HS134.out (by omega))
      clear HO127
      have HO139 := Lib.hid (HO128.out.below HS134.out (by omega))
      clear HO128
      have HO140 := Lib.hid (HO129.out.below HS134.out (by omega))
      clear HO129
      have HO141 := Lib.hid (HO119.out.below HS134.out (by omega))
      clear HO119
      have HB142 : Hid (Below w.heap.size w w131) := Lib.hid (HB130.out.trans (HS134.out.mono (by omega)))
      clear HB130
      clear HS134
      clear HO141
      go_wp2_with fail
      refine (L_markIntS _ _ _ _ _ _ HO137.out (by omega) (by omega) (by omega)).mono ?_
      rintro e w143 ⟨K144, rfl, hk145, h0_146, h1_147, hx148, hy149⟩
      have z150 : w131.heap.size ≤ w143.heap.size := hy149.size
      have HO151 := Lib.hid hx148
      have HS152 := Lib.hid hy149
      clear hx148 hy149
      have HO153 := Lib.hid (HO135.out.kept HS152.out (by omega) (by omega))
      clear HO135
      have HO154 := Lib.hid (HO136.out.kept HS152.out (by omega) (by omega))
      clear HO136
      have HO155 := Lib.hid (HO138.out.kept HS152.out (by omega) (by omega))
      clear HO138
      have HO156 := Lib.hid (HO139.out.kept HS152.out (by omega) (by omega))
      clear HO139
      have HO157 := Lib.hid (HO140.out.kept HS152.out (by omega) (by omega))
      clear HO140
      have HB158 : Hid (Below w.heap.size w w143) := Lib.hid (HB142.out.trans ((HS152.out.to_below (by omega)).mono (by omega)))
      clear HB142
      clear HS152 HO137
      go_wp2_with fail
      refine (L_markIntS _ _ _ _ _ _ HO155.out (by omega) (by omega) (by omega)).mono ?_
      rintro e w159 ⟨K160, rfl, hk161, h0_162, h1_163, hx164, hy165⟩
      have z166 : w143.heap.size ≤ w159.heap.size := hy165.size
      have HO167 := Lib.hid hx164
      have HS168 := Lib.hid hy165
      clear hx164 hy165
      have HO169 := Lib.hid (HO153.out.kept HS168.out (by omega) (by omega))
      clear HO153
      have HO170 := Lib.hid (HO154.out.kept HS168.out (by omega) (by omega))
      clear HO154
      have HO171 := Lib.hid (HO151.out.kept HS168.out (by omega) (by omega))
      clear HO151
      have HO172 := Lib.hid (HO156.out.kept HS168.out (by omega) (by omega))
      clear HO156
      have HO173 := Lib.hid (HO157.out.kept HS168.out (by omega) (by omega))
      clear HO157
      have HB174 : Hid (Below w.heap.size w w159) := Lib.hid (HB158.out.trans ((HS168.out.to_below (by omega)).mono (by omega)))
      clear HB158
      clear HS168 HO155
      clear HO171
      clear HO167
      go_wp2_with fail
      refine (L_eqIntS _ _ _ _ _ _ HO172.out.rd HO169.out.rd (by omega) (by omega) HO172.out.small).mono ?_
      rintro e w175 ⟨rfl, hx176⟩
      have z177 : w159.heap.size ≤ w175.heap.size := hx176.size
      have HS178 := Lib.hid hx176
      clear hx176
      have HO179 := Lib.hid (HO169.out.below HS178.out (by omega))
      clear HO169
      have HO180 := Lib.hid (HO170.out.below HS178.out (by omega))
      clear HO170
      have HO181 := Lib.hid (HO172.out.below HS178.out (by omega))
      clear HO172
      have HO182 := Lib.hid (HO173.out.below HS178.out (by omega))
      clear HO173
      have HB183 : Hid (Below w.heap.size w w175) := Lib.hid (HB174.out.trans (HS178.out.mono (by omega)))
      clear HB174
      clear HS178
      go_wp2_with fail
      refine (L_eqIntS _ _ _ _ _ _ HO182.out.rd HO180.out.rd (by omega) (by omega) HO182.out.small).mono ?_
      rintro e w184 ⟨rfl, hx185⟩
      have z186 : w175.heap.size ≤ w184.heap.size := hx185.size
      have HS187 := Lib.hid hx185
      clear hx185
      have HO188 := Lib.hid (HO179.out.below HS187.out (by omega))
      clear HO179
      have HO189 := Lib.hid (HO180.out.below HS187.out (by omega))
      clear HO180
      have HO190 := Lib.hid (HO181.out.below HS187.out (by omega))
      clear HO181
      have HO191 := Lib.hid (HO182.out.below HS187.out (by omega))
      clear HO182
      have HB192 : Hid (Below w.heap.size w w184) := Lib.hid (HB183.out.trans (HS187.out.mono (by omega)))
      clear HB183
      clear HS187
      have hs193 := HO190.out.small
      go_wp2_with fail
      refine (L_markIntS _ _ _ _ _ _ HO190.out (by omega) (by omega) (by omega)).mono ?_
      rintro e w194 ⟨K195, rfl, hk196, h0_197, h1_198, hx199, hy200⟩
      have z201 : w184.heap.size ≤ w194.heap.size := hy200.size
      have HO202 := Lib.hid hx199
      have HS203 := Lib.hid hy200
      clear hx199 hy200
      have HO204 := Lib.hid (HO188.out.kept HS203.out (by omega) (by omega))
      clear HO188
      have HO205 := Lib.hid (HO189.out.kept HS203.out (by omega) (by omega))
      clear HO189
      have HO206 := Lib.hid (HO191.out.kept HS203.out (by omega) (by omega))
      clear HO191
      have HB207 : Hid (Below w.heap.size w w194) := Lib.hid (HB192.out.trans ((HS203.out.to_below (by omega)).mono (by omega)))
      clear HB192
      clear HS203 HO190
      have hs208 := HO206.out.small
      go_wp2_with fail
      refine (L_markIntS _ _ _ _ _ _ HO206.out (by omega) (by omega) (by omega)).mono ?_
      rintro e w209 ⟨K210, rfl, hk211, h0_212, h1_213, hx214, hy215⟩
      have z216 : w194.heap.size ≤ w209.heap.size := hy215.size
      have HO217 := Lib.hid hx214
      have HS218 := Lib.hid hy215
      clear hx214 hy215
      have HO219 := Lib.hid (HO204.out.kept HS218.out (by omega) (by omega))
      clear HO204
      have HO220 := Lib.hid (HO205.out.kept HS218.out (by omega) (by omega))
      clear HO205
      have HO221 := Lib.hid (HO202.out.kept HS218.out (by omega) (by omega))
      clear HO202
      have HB222 : Hid (Below w.heap.size w w209) := Lib.hid (HB207.out.trans ((HS218.out.to_below (by omega)).mono (by omega)))
      clear HB207
      clear HS218 HO206
      go_wp2_with fail
      refine (L_heldIntS _ _ (R_PolyDivide_0 d_aA d_aB) 1 _ _ HO221.out.rd (by omega) hs193 (Lib.hid rfl) (by omega) (by omega)).mono ?_
      rintro e w223 ⟨K224, rfl, hk225, h0_226, h1_227, hx228⟩
      have z229 : w209.heap.size ≤ w223.heap.size := hx228.size
      have HS230 := Lib.hid hx228
      clear hx228
      have HE231 : Hid (K224 = K195) := Lib.hid (by rw [hk225.out, hk196.out])
      have hne232 : (K224 != K195) = false := by rw [HE231.out]; simp
      have HO233 := Lib.hid (HO219.out.below HS230.out (by omega))
      clear HO219
      have HO234 := Lib.hid (HO220.out.below HS230.out (by omega))
      clear HO220
      have HO235 := Lib.hid (HO221.out.below HS230.out (by omega))
      clear HO221
      have HO236 := Lib.hid (HO217.out.below HS230.out (by omega))
      clear HO217
      have HB237 : Hid (Below w.heap.size w w223) := Lib.hid (HB222.out.trans (HS230.out.mono (by omega)))
      clear HB222
      clear HS230
      go_wp2_with fail
      refine (L_heldIntS _ _ (R_PolyDivide_1 d_aA d_aB) K195 _ _ HO236.out.rd (by omega) hs208 HE231 (by omega) (by omega)).mono ?_
      rintro e w238 ⟨K239, rfl, hk240, h0_241, h1_242, hx243⟩
      have z244 : w223.heap.size ≤ w238.heap.size := hx243.size
      have HS245 := Lib.hid hx243
      clear hx243
      have HE246 : Hid (K239 = K210) := Lib.hid (by rw [hk240.out, hk211.out])
      have hne247 : (K239 != K210) = false := by rw [HE246.out]; simp
      have HO248 := Lib.hid (HO233.out.below HS245.out (by omega))
      clear HO233
      have HO249 := Lib.hid (HO234.out.below HS245.out (by omega))
      clear HO234
      have HO250 := Lib.hid (HO235.out.below HS245.out (by omega))
      clear HO235
      have HO251 := Lib.hid (HO236.out.below HS245.out (by omega))
      clear HO236
      have HB252 : Hid (Below w.heap.size w w238) := Lib.hid (HB237.out.trans (HS245.out.mono (by omega)))
      clear HB237
      clear HS245
      go_wp2_with fail
      refine (L_toIntS _ _ _ _ (RdIntS.below Ha_aA.out HB252.out) HB252.out.size hs_aA).mono ?_
      rintro e w254 ⟨v253, rfl, hx258, hy259⟩
      have z257 : w238.heap.size ≤ w254.heap.size := hy259.size
      have HO255 := Lib.hid hx258
      have HS256 := Lib.hid hy259
      clear hx258 hy259
      have HO260 := Lib.hid (HO248.out.below HS256.out (by omega))
      clear HO248
      have HO261 := Lib.hid (HO249.out.below HS256.out (by omega))
      clear HO249
      have HO262 := Lib.hid (HO250.out.below HS256.out (by omega))
      clear HO250
      have HO263 := Lib.hid (HO251.out.below HS256.out (by omega))
      clear HO251
      have HB264 : Hid (Below w.heap.size w w254) := Lib.hid (HB252.out.trans (HS256.out.mono (by omega)))
      clear HB252
      clear HS256
      go_wp2_with fail
      refine (L_toIntS _ _ _ _ (RdIntS.below Ha_aB.out HB264.out) HB264.out.size hs_aB).mono ?_
      rintro e w266 ⟨v265, rfl, hx270, hy271⟩
      have z269 : w254.heap.size ≤ w266.heap.size := hy271.size
      have HO267 := Lib.hid hx270
      have HS268 := Lib.hid hy271
      clear hx270 hy271
      have HO272 := Lib.hid (HO260.out.below HS268.out (by omega))
      clear HO260
      have HO273 := Lib.hid (HO261.out.below HS268.out (by omega))
      clear HO261
      have HO274 := Lib.hid (HO262.out.below HS268.out (by omega))
      clear HO262
      have HO275 := Lib.hid (HO263.out.below HS268.out (by omega))
      clear HO263
      have HO276 := Lib.hid (HO255.out.below HS268.out (by omega))
      clear HO255
      have HB277 : Hid (Below w.heap.size w w266) := Lib.hid (HB264.out.trans (HS268.out.mono (by omega)))
      clear HB264
      clear HS268
      go_wp2_with fail
      refine (X_i_PolyDivide _ _ d_aA d_aB _ (HO276.out.rd.more (by omega)) (HO267.out.rd.more (by omega)) hs_aA hs_aB).mono ?_
      rintro e w278 ⟨h0_w278, h1_w278, mid282, rfl, zm283, zm284, hx279, hx280, hy281⟩
      have z285 : w266.heap.size ≤ w278.heap.size := hy281.size
      have HO286 := Lib.hid hx279
      clear hx279
      have HO287 := Lib.hid hx280
      clear hx280
      have HS288 := Lib.hid hy281
      clear hy281
      have HO289 := Lib.hid (HO272.out.below HS288.out (by omega))
      clear HO272
      have HO290 := Lib.hid (HO273.out.below HS288.out (by omega))
      clear HO273
      have HO291 := Lib.hid (HO274.out.below HS288.out (by omega))
      clear HO274
      have HO292 := Lib.hid (HO275.out.below HS288.out (by omega))
      clear HO275
      have HO293 := Lib.hid (HO276.out.below HS288.out (by omega))
      clear HO276
      have HO294 := Lib.hid (HO267.out.below HS288.out (by omega))
      clear HO267
      have HB295 : Hid (Below w.heap.size w w278) := Lib.hid (HB277.out.trans (HS288.out.mono (by omega)))
      clear HB277
      clear HS288
      clear HO293
      clear HO294
      go_wp2_with fail
      refine (L_eqIntS _ _ _ _ _ _ HO286.out.rd HO289.out.rd (by omega) (by omega) HO286.out.small).mono ?_
      rintro e w296 ⟨rfl, hx297⟩
      have z298 : w278.heap.size ≤ w296.heap.size := hx297.size
      have HS299 := Lib.hid hx297
      clear hx297
      have HO300 := Lib.hid (HO289.out.below HS299.out (by omega))
      clear HO289
      have HO301 := Lib.hid (HO290.out.below HS299.out (by omega))
      clear HO290
      have HO302 := Lib.hid (HO291.out.below HS299.out (by omega))
      clear HO291
      have HO303 := Lib.hid (HO292.out.below HS299.out (by omega))
      clear HO292
      have HO304 := Lib.hid (HO286.out.below HS299.out (by omega))
      clear HO286
      have HO305 := Lib.hid (HO287.out.below HS299.out (by omega))
      clear HO287
      have HB306 : Hid (Below w.heap.size w w296) := Lib.hid (HB295.out.trans (HS299.out.mono (by omega)))
      clear HB295
      clear HS299
      go_wp2_with fail
      refine (L_eqIntS _ _ _ _ _ _ HO305.out.rd HO301.out.rd (by omega) (by omega) HO305.out.small).mono ?_
      rintro e w307 ⟨rfl, hx308⟩
      have z309 : w296.heap.size ≤ w307.heap.size := hx308.size
      have HS310 := Lib.hid hx308
      clear hx308
      have HO311 := Lib.hid (HO300.out.below HS310.out (by omega))
      clear HO300
      have HO312 := Lib.hid (HO301.out.below HS310.out (by omega))
      clear HO301
      have HO313 := Lib.hid (HO302.out.below HS310.out (by omega))
      clear HO302
      have HO314 := Lib.hid (HO303.out.below HS310.out (by omega))
      clear HO303
      have HO315 := Lib.hid (HO304.out.below HS310.out (by omega))
      clear HO304
      have HO316 := Lib.hid (HO305.out.below HS310.out (by omega))
      clear HO305
      have HB317 : Hid (Below w.heap.size w w307) := Lib.hid (HB306.out.trans (HS310.out.mono (by omega)))
      clear HB306
      clear HS310
      go_wp2_with fail
      refine (L_heldIntS _ _ (R_PolyDivide_0 d_aA d_aB) 1 _ _ HO313.out.rd (by omega) hs193 (Lib.hid rfl) (by omega) (by omega)).mono ?_
      rintro e w318 ⟨K319, rfl, hk320, h0_321, h1_322, hx323⟩
      have z324 : w307.heap.size ≤ w318.heap.size := hx323.size
      have HS325 := Lib.hid hx323
      clear hx323
      have HE326 : Hid (K319 = K195) := Lib.hid (by rw [hk320.out, hk196.out])
      have hne327 : (K319 != K195) = false := by rw [HE326.out]; simp
      have HO328 := Lib.hid (HO311.out.below HS325.out (by omega))
      clear HO311
      have HO329 := Lib.hid (HO312.out.below HS325.out (by omega))
      clear HO312
      have HO330 := Lib.hid (HO313.out.below HS325.out (by omega))
      clear HO313
      have HO331 := Lib.hid (HO314.out.below HS325.out (by omega))
      clear HO314
      have HO332 := Lib.hid (HO315.out.below HS325.out (by omega))
      clear HO315
      have HO333 := Lib.hid (HO316.out.below HS325.out (by omega))
      clear HO316
      have HB334 : Hid (Below w.heap.size w w318) := Lib.hid (HB317.out.trans (HS325.out.mono (by omega)))
      clear HB317
      clear HS325
      go_wp2_with fail
      refine (L_heldIntS _ _ (R_PolyDivide_1 d_aA d_aB) K195 _ _ HO331.out.rd (by omega) hs208 HE326 (by omega) (by omega)).mono ?_
      rintro e w335 ⟨K336, rfl, hk337, h0_338, h1_339, hx340⟩
      have z341 : w318.heap.size ≤ w335.heap.size := hx340.size
      have HS342 := Lib.hid hx340
      clear hx340
      have HE343 : Hid (K336 = K210) := Lib.hid (by rw [hk337.out, hk211.out])
      have hne344 : (K336 != K210) = false := by rw [HE343.out]; simp
      have HO345 := Lib.hid (HO328.out.below HS342.out (by omega))
      clear HO328
      have HO346 := Lib.hid (HO329.out.below HS342.out (by omega))
      clear HO329
      have HO347 := Lib.hid (HO330.out.below HS342.out (by omega))
      clear HO330
      have HO348 := Lib.hid (HO331.out.below HS342.out (by omega))
      clear HO331
      have HO349 := Lib.hid (HO332.out.below HS342.out (by omega))
      clear HO332
      have HO350 := Lib.hid (HO333.out.below HS342.out (by omega))
      clear HO333
      have HB351 : Hid (Below w.heap.size w w335) := Lib.hid (HB334.out.trans (HS342.out.mono (by omega)))
      clear HB334
      clear HS342
      go_wp2
      go_ret
      exact ⟨rfl, HB351.out⟩
    · have hn_aB : ¬ n_aB ≤ 1048576 := by have := h_aB.len; unfold szIntS at hs_aB; omega
      go_enter Try.func7, Try.ntmps7
      go_wp2
      go_ret
      exact ⟨rfl, Below.refl _ _⟩
  · have hn_aA : ¬ n_aA ≤ 1048576 := by have := h_aA.len; unfold szIntS at hs_aA; omega
    go_enter Try.func7, Try.ntmps7
    go_wp2
    go_ret
    exact ⟨rfl, Below.refl _ _⟩

set_option maxRecDepth 100000 in
theorem lifted (os : Os) (started : os.Started) (H : Type) (enc : TypeId × Value → H) :
    ReturnsInHanded {} Try.checked os 7 .any (Rows.fnExactPolyDivideSpec.pre6 enc Try.prog Try.f7 Rows.fnExactPolyDivideRow.domain false) (Rows.fnExactPolyDivideSpec.post enc Try.prog Try.f7 false true false false) := by
  refine returnsInHanded_of_change (C := Try.checked) own started (by kernel_rfl) Try.func7
    (ChangeSpec.witness6 (enc := enc) (C := Try.checked) false ⟨#[], #[.slice none 0 0, .slice none 0 0], []⟩ 8 (by kernel_rfl) (by kernel_rfl) (by kernel_rfl) (by kernel_rfl)) ?_
  intro W base args ds gs before hval0 hW hcnd _
  have hval : ∀ (j : Nat) t v, Try.f7.params[j]? = some t → args[j]? = some v → Value.okWide Try.prog W .any base t v := hval0
  have hW' := hW
  obtain ⟨p, q, hA0, hV, rfl, hfz, hnd⟩ := hW
  have hA : DataW.TrodAll enc Try.prog W 0 (fun _ => true) true Try.f7.params.toList args.toList ds p := hA0
  rw [Try.params7] at hA hval
  obtain ⟨v0, vs0, dd0, ds0, p0, q0, hargs, rfl, rfl, h0, r0⟩ := trodAll_cons hA
  obtain ⟨v1, vs1, dd1, ds1, p1, q1, rfl, rfl, rfl, h1, r1⟩ := trodAll_cons r0
  obtain ⟨rfl, rfl, rfl⟩ := trodAll_nil r1
  obtain rfl : args = #[v0, v1] := by cases args; simp_all
  obtain ⟨rfl, rfl⟩ := trodVars_none hV
  obtain ⟨A_aA, n_aA, c_aA, d_aA, rfl, hm_aA, h_aA⟩ := open_intS Try.underlying22 Try.underlying3 (by kernel_rfl) (hval 0 22 v0 rfl rfl) h0
  obtain ⟨A_aB, n_aB, c_aB, d_aB, rfl, hm_aB, h_aB⟩ := open_intS Try.underlying22 Try.underlying3 (by kernel_rfl) (hval 1 22 v1 rfl rfl) h1
  refine (walk A_aA n_aA c_aA d_aA A_aB n_aB c_aB d_aB W hm_aA h_aA hm_aB h_aB).mono fun e W' ⟨he, hb⟩ => ?_
  subst he
  exact ⟨_, rfl, post_law rfl rfl Try.underlying4 (by kernel_rfl) (by kernel_rfl) hW' rfl hb⟩

theorem over : Rows.fnExactPolyDivideRow.holds Try.pinned (OpenSpec.ofChange Rows.fnExactPolyDivideSpec) :=
  OpenClaim.holds_of_wide 7 Try.f7 rfl rfl rfl rfl rfl rfl rfl ⟨rfl, rfl, rfl, rfl, rfl⟩ rfl rfl rfl rfl rfl (by kernel_rfl) Try.func7 (by kernel_rfl)
    (of_decide_eq_true (by kernel_rfl)) (by unfold Func.isWrapper; first | (rw [if_pos (by decide +kernel)]; kernel_rfl) | (rw [if_neg (by decide +kernel)]; exact ⟨rfl, rfl⟩))
    (fun os started H enc _ => lifted os started H enc)
/-- the statement -/
theorem proved : Rows.FnExactPolyDivideSaid :=
  over
end Go.Proofs.Ytpdkkfbnfjfmhaa.fnExactPolyDivide
