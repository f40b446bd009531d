/- FnExactPolyDivide answers true at every input: at each argument the function and its model answer alike, no argument is written, and the answer owns its memory. No condition. -/
import Derived.Test.YtblfbibmimodiaaRows
import Derived.Test.YtblfbibmimodiaaLaw
import Derived.Test.YtblfbibmimodiaaFace2c
namespace Go.Proofs.Ytblfbibmimodiaa.fnExactPolyDivide
open Go.ChangeShapes Go.WideShapes Go.ChangeAt Go.RowKit
theorem own : ownKnob Try.prog.godebug = none := by kernel_rfl
set_option maxRecDepth 100000 in
set_option maxHeartbeats 4000000 in
theorem walk (A_aA : Option Addr) (n_aA c_aA : Nat) (d_aA : List Int) (A_aB : Option Addr) (n_aB c_aB : Nat) (d_aB : List Int) (w : World) (hm_aA : n_aA ≤ 9223372036854775807) (h_aA : Rd w w.heap.size 1 A_aA n_aA (cI d_aA)) (hm_aB : n_aB ≤ 9223372036854775807) (h_aB : Rd w w.heap.size 1 A_aB n_aB (cI d_aB)) :
    Calls Try.prog 7 #[.slice A_aA n_aA c_aA, .slice A_aB n_aB c_aB] w fun e w' => e = .returned (.bool true) ∧ Below w.heap.size w w' := by
  by_cases hs_aA : szIntS d_aA ≤ 1048576
  · have hn_aA : n_aA ≤ 1048576 := by have := h_aA.len; unfold szIntS at hs_aA; omega
    by_cases hs_aB : szIntS d_aB ≤ 1048576
    · have hn_aB : n_aB ≤ 1048576 := by have := h_aB.len; unfold szIntS at hs_aB; omega
      have Ha_aA : Hid (RdIntS w w.heap.size (.slice A_aA n_aA c_aA) d_aA) := Lib.hid (⟨A_aA, n_aA, c_aA, rfl, hm_aA, h_aA⟩)
      have Ha_aB : Hid (RdIntS w w.heap.size (.slice A_aB n_aB c_aB) d_aB) := Lib.hid (⟨A_aB, n_aB, c_aB, rfl, hm_aB, h_aB⟩)
      clear h_aA h_aB
      go_enter Try.func7, Try.ntmps7
      go_wp2_with fail
      refine (L_toIntS _ _ _ _ Ha_aA.out (Nat.le_refl _) hs_aA).mono ?_
      rintro e w2 ⟨v1, rfl, hx6, hy7⟩
      have z5 : w.heap.size ≤ w2.heap.size := hy7.size
      have HO3 := Lib.hid hx6
      have HS4 := Lib.hid hy7
      clear hx6 hy7
      have HB8 : Hid (Below w.heap.size w w2) := Lib.hid (HS4.out.mono (by omega))
      clear HS4
      go_wp2_with fail
      refine (L_toIntS _ _ _ _ (RdIntS.below Ha_aB.out HB8.out) HB8.out.size hs_aB).mono ?_
      rintro e w10 ⟨v9, rfl, hx14, hy15⟩
      have z13 : w2.heap.size ≤ w10.heap.size := hy15.size
      have HO11 := Lib.hid hx14
      have HS12 := Lib.hid hy15
      clear hx14 hy15
      have HO16 := Lib.hid (HO3.out.below HS12.out (by omega))
      clear HO3
      have HB17 : Hid (Below w.heap.size w w10) := Lib.hid (HB8.out.trans (HS12.out.mono (by omega)))
      clear HB8
      clear HS12
      go_wp2_with fail
      refine (X_s_PolyDivide _ _ d_aA d_aB _ (HO16.out.rd.more (by omega)) (HO11.out.rd.more (by omega)) hs_aA hs_aB).mono ?_
      rintro e w18 ⟨w0_w18, w1_w18, mid22, rfl, zm23, zm24, hx19, hx20, hy21⟩
      have z25 : w10.heap.size ≤ w18.heap.size := hy21.size
      have HO26 := Lib.hid hx19
      clear hx19
      have HO27 := Lib.hid hx20
      clear hx20
      have HS28 := Lib.hid hy21
      clear hy21
      have HO29 := Lib.hid (HO16.out.below HS28.out (by omega))
      clear HO16
      have HO30 := Lib.hid (HO11.out.below HS28.out (by omega))
      clear HO11
      have HB31 : Hid (Below w.heap.size w w18) := Lib.hid (HB17.out.trans (HS28.out.mono (by omega)))
      clear HB17
      clear HS28
      clear HO29
      clear HO30
      go_wp2_with fail
      refine (L_toIntS _ _ _ _ (RdIntS.below Ha_aA.out HB31.out) HB31.out.size hs_aA).mono ?_
      rintro e w33 ⟨v32, rfl, hx37, hy38⟩
      have z36 : w18.heap.size ≤ w33.heap.size := hy38.size
      have HO34 := Lib.hid hx37
      have HS35 := Lib.hid hy38
      clear hx37 hy38
      have HO39 := Lib.hid (HO26.out.below HS35.out (by omega))
      clear HO26
      have HO40 := Lib.hid (HO27.out.below HS35.out (by omega))
      clear HO27
      have HB41 : Hid (Below w.heap.size w w33) := Lib.hid (HB31.out.trans (HS35.out.mono (by omega)))
      clear HB31
      clear HS35
      go_wp2_with fail
      refine (L_toIntS _ _ _ _ (RdIntS.below Ha_aB.out HB41.out) HB41.out.size hs_aB).mono ?_
      rintro e w43 ⟨v42, rfl, hx47, hy48⟩
      have z46 : w33.heap.size ≤ w43.heap.size := hy48.size
      have HO44 := Lib.hid hx47
      have HS45 := Lib.hid hy48
      clear hx47 hy48
      have HO49 := Lib.hid (HO39.out.below HS45.out (by omega))
      clear HO39
      have HO50 := Lib.hid (HO40.out.below HS45.out (by omega))
      clear HO40
      have HO51 := Lib.hid (HO34.out.below HS45.out (by omega))
      clear HO34
      have HB52 : Hid (Below w.heap.size w w43) := Lib.hid (HB41.out.trans (HS45.out.mono (by omega)))
      clear HB41
      clear HS45
      go_wp2_with fail
      refine (X_i_PolyDivide _ _ d_aA d_aB _ (HO51.out.rd.more (by omega)) (HO44.out.rd.more (by omega)) hs_aA hs_aB).mono ?_
      rintro e w53 ⟨g0_w53, g1_w53, mid57, rfl, zm58, zm59, hx54, hx55, hy56⟩
      have z60 : w43.heap.size ≤ w53.heap.size := hy56.size
      have HO61 := Lib.hid hx54
      clear hx54
      have HO62 := Lib.hid hx55
      clear hx55
      have HS63 := Lib.hid hy56
      clear hy56
      have HO64 := Lib.hid (HO49.out.below HS63.out (by omega))
      clear HO49
      have HO65 := Lib.hid (HO50.out.below HS63.out (by omega))
      clear HO50
      have HO66 := Lib.hid (HO51.out.below HS63.out (by omega))
      clear HO51
      have HO67 := Lib.hid (HO44.out.below HS63.out (by omega))
      clear HO44
      have HB68 : Hid (Below w.heap.size w w53) := Lib.hid (HB52.out.trans (HS63.out.mono (by omega)))
      clear HB52
      clear HS63
      go_wp2_with fail
      refine (L_eqIntS _ _ _ _ _ _ HO61.out.rd HO64.out.rd (by omega) (by omega) HO61.out.small).mono ?_
      rintro e w69 ⟨rfl, hx70⟩
      have z71 : w53.heap.size ≤ w69.heap.size := by rw [hx70.sz]; exact Nat.le_refl _
      have HS72 := Lib.hid hx70
      clear hx70
      have HO73 := Lib.hid (HO64.out.below (HS72.out.below _) (Nat.le_refl _))
      clear HO64
      have HO74 := Lib.hid (HO65.out.below (HS72.out.below _) (Nat.le_refl _))
      clear HO65
      have HO75 := Lib.hid (HO66.out.below (HS72.out.below _) (Nat.le_refl _))
      clear HO66
      have HO76 := Lib.hid (HO67.out.below (HS72.out.below _) (Nat.le_refl _))
      clear HO67
      have HO77 := Lib.hid (HO61.out.below (HS72.out.below _) (Nat.le_refl _))
      clear HO61
      have HO78 := Lib.hid (HO62.out.below (HS72.out.below _) (Nat.le_refl _))
      clear HO62
      have HB79 : Hid (Below w.heap.size w w69) := Lib.hid (HB68.out.trans (HS72.out.below w.heap.size))
      clear HB68
      clear HS72
      go_wp2_with fail
      refine (L_eqIntS _ _ _ _ _ _ HO78.out.rd HO74.out.rd (by omega) (by omega) HO78.out.small).mono ?_
      rintro e w80 ⟨rfl, hx81⟩
      have z82 : w69.heap.size ≤ w80.heap.size := by rw [hx81.sz]; exact Nat.le_refl _
      have HS83 := Lib.hid hx81
      clear hx81
      have HO84 := Lib.hid (HO73.out.below (HS83.out.below _) (Nat.le_refl _))
      clear HO73
      have HO85 := Lib.hid (HO74.out.below (HS83.out.below _) (Nat.le_refl _))
      clear HO74
      have HO86 := Lib.hid (HO75.out.below (HS83.out.below _) (Nat.le_refl _))
      clear HO75
      have HO87 := Lib.hid (HO76.out.below (HS83.out.below _) (Nat.le_refl _))
      clear HO76
      have HO88 := Lib.hid (HO77.out.below (HS83.out.below _) (Nat.le_refl _))
      clear HO77
      have HO89 := Lib.hid (HO78.out.below (HS83.out.below _) (Nat.le_refl _))
      clear HO78
      have HB90 : Hid (Below w.heap.size w w80) := Lib.hid (HB79.out.trans (HS83.out.below w.heap.size))
      clear HB79
      clear HS83
      go_wp2_with fail
      refine (L_toIntS _ _ _ _ (RdIntS.below Ha_aA.out HB90.out) HB90.out.size hs_aA).mono ?_
      rintro e w92 ⟨v91, rfl, hx96, hy97⟩
      have z95 : w80.heap.size ≤ w92.heap.size := hy97.size
      have HO93 := Lib.hid hx96
      have HS94 := Lib.hid hy97
      clear hx96 hy97
      have HO98 := Lib.hid (HO84.out.below HS94.out (by omega))
      clear HO84
      have HO99 := Lib.hid (HO85.out.below HS94.out (by omega))
      clear HO85
      have HO100 := Lib.hid (HO86.out.below HS94.out (by omega))
      clear HO86
      have HO101 := Lib.hid (HO87.out.below HS94.out (by omega))
      clear HO87
      have HO102 := Lib.hid (HO88.out.below HS94.out (by omega))
      clear HO88
      have HO103 := Lib.hid (HO89.out.below HS94.out (by omega))
      clear HO89
      have HB104 : Hid (Below w.heap.size w w92) := Lib.hid (HB90.out.trans (HS94.out.mono (by omega)))
      clear HB90
      clear HS94
      go_wp2_with fail
      refine (L_eqIntS _ _ _ _ _ _ HO100.out.rd HO93.out.rd (by omega) (by omega) HO100.out.small).mono ?_
      rintro e w105 ⟨rfl, hx106⟩
      have z107 : w92.heap.size ≤ w105.heap.size := by rw [hx106.sz]; exact Nat.le_refl _
      have HS108 := Lib.hid hx106
      clear hx106
      have HO109 := Lib.hid (HO98.out.below (HS108.out.below _) (Nat.le_refl _))
      clear HO98
      have HO110 := Lib.hid (HO99.out.below (HS108.out.below _) (Nat.le_refl _))
      clear HO99
      have HO111 := Lib.hid (HO100.out.below (HS108.out.below _) (Nat.le_refl _))
      clear HO100
      have HO112 := Lib.hid (HO101.out.below (HS108.out.below _) (Nat.le_refl _))
      clear HO101
      have HO113 := Lib.hid (HO102.out.below (HS108.out.below _) (Nat.le_refl _))
      clear HO102
      have HO114 := Lib.hid (HO103.out.below (HS108.out.below _) (Nat.le_refl _))
      clear HO103
      have HO115 := Lib.hid (HO93.out.below (HS108.out.below _) (Nat.le_refl _))
      clear HO93
      have HB116 : Hid (Below w.heap.size w w105) := Lib.hid (HB104.out.trans (HS108.out.below w.heap.size))
      clear HB104
      clear HS108
      clear HO115
      go_wp2_with fail
      refine (L_toIntS _ _ _ _ (RdIntS.below Ha_aB.out HB116.out) HB116.out.size hs_aB).mono ?_
      rintro e w118 ⟨v117, rfl, hx122, hy123⟩
      have z121 : w105.heap.size ≤ w118.heap.size := hy123.size
      have HO119 := Lib.hid hx122
      have HS120 := Lib.hid hy123
      clear hx122 hy123
      have HO124 := Lib.hid (HO109.out.below HS120.out (by omega))
      clear HO109
      have HO125 := Lib.hid (HO110.out.below HS120.out (by omega))
      clear HO110
      have HO126 := Lib.hid (HO111.out.below HS120.out (by omega))
      clear HO111
      have HO127 := Lib.hid (HO112.out.below HS120.out (by omega))
      clear HO112
      have HO128 := Lib.hid (HO113.out.below HS120.out (by omega))
      clear HO113
      have HO129 := Lib.hid (HO114.out.below HS120.out (by omega))
      clear HO114
      have HB130 : Hid (Below w.heap.size w w118) := Lib.hid (HB116.out.trans (HS120.out.mono (by omega)))
      clear HB116
      clear HS120
      go_wp2_with fail
      refine (L_eqIntS _ _ _ _ _ _ HO127.out.rd HO119.out.rd (by omega) (by omega) HO127.out.small).mono ?_
      rintro e w131 ⟨rfl, hx132⟩
      have z133 : w118.heap.size ≤ w131.heap.size := by rw [hx132.sz]; exact Nat.le_refl _
      have HS134 := Lib.hid hx132
      clear hx132
      have HO135 := Lib.hid (HO124.out.below (HS134.out.below _) (Nat.le_refl _))
      clear HO124
      have HO136 := Lib.hid (HO125.out.below (HS134.out.below _) (Nat.le_refl _))
      clear HO125
      have HO137 := Lib.hid (HO126.out.below (HS134.out.below _) (Nat.le_refl _))
      clear HO126
      have HO138 := Lib.hid (HO127.out.below (HS134.out.below _) (Nat.le_refl _))
      clear HO127
      have HO139 := Lib.hid (HO128.out.below (HS134.out.below _) (Nat.le_refl _))
      clear HO128
      have HO140 := Lib.hid (HO129.out.below (HS134.out.below _) (Nat.le_refl _))
      clear HO129
      have HO141 := Lib.hid (HO119.out.below (HS134.out.below _) (Nat.le_refl _))
      clear HO119
      have HB142 : Hid (Below w.heap.size w w131) := Lib.hid (HB130.out.trans (HS134.out.below w.heap.size))
      clear HB130
      clear HS134
      clear HO141
      go_wp2_with fail
      refine (L_markIntS _ _ _ _ _ _ HO137.out (by omega) (by omega)).mono ?_
      rintro e w143 ⟨K144, rfl, hk145, h0_146, h1_147, hx148, hy149, z150, z151⟩
      have HO152 := Lib.hid hx148
      have HS153 := Lib.hid hy149
      clear hx148 hy149
      have HO154 := Lib.hid (HO135.out.kept HS153.out (by omega) (by omega))
      clear HO135
      have HO155 := Lib.hid (HO136.out.kept HS153.out (by omega) (by omega))
      clear HO136
      have HO156 := Lib.hid (HO138.out.kept HS153.out (by omega) (by omega))
      clear HO138
      have HO157 := Lib.hid (HO139.out.kept HS153.out (by omega) (by omega))
      clear HO139
      have HO158 := Lib.hid (HO140.out.kept HS153.out (by omega) (by omega))
      clear HO140
      have HB159 : Hid (Below w.heap.size w w143) := Lib.hid (HB142.out.trans ((HS153.out.to_below (by omega)).mono (by omega)))
      clear HB142
      clear HS153 HO137
      go_wp2_with fail
      refine (L_markIntS _ _ _ _ _ _ HO156.out (by omega) (by omega)).mono ?_
      rintro e w160 ⟨K161, rfl, hk162, h0_163, h1_164, hx165, hy166, z167, z168⟩
      have HO169 := Lib.hid hx165
      have HS170 := Lib.hid hy166
      clear hx165 hy166
      have HO171 := Lib.hid (HO154.out.kept HS170.out (by omega) (by omega))
      clear HO154
      have HO172 := Lib.hid (HO155.out.kept HS170.out (by omega) (by omega))
      clear HO155
      have HO173 := Lib.hid (HO152.out.kept HS170.out (by omega) (by omega))
      clear HO152
      have HO174 := Lib.hid (HO157.out.kept HS170.out (by omega) (by omega))
      clear HO157
      have HO175 := Lib.hid (HO158.out.kept HS170.out (by omega) (by omega))
      clear HO158
      have HB176 : Hid (Below w.heap.size w w160) := Lib.hid (HB159.out.trans ((HS170.out.to_below (by omega)).mono (by omega)))
      clear HB159
      clear HS170 HO156
      clear HO173
      clear HO169
      go_wp2_with fail
      refine (L_eqIntS _ _ _ _ _ _ HO174.out.rd HO171.out.rd (by omega) (by omega) HO174.out.small).mono ?_
      rintro e w177 ⟨rfl, hx178⟩
      have z179 : w160.heap.size ≤ w177.heap.size := by rw [hx178.sz]; exact Nat.le_refl _
      have HS180 := Lib.hid hx178
      clear hx178
      have HO181 := Lib.hid (HO171.out.below (HS180.out.below _) (Nat.le_refl _))
      clear HO171
      have HO182 := Lib.hid (HO172.out.below (HS180.out.below _) (Nat.le_refl _))
      clear HO172
      have HO183 := Lib.hid (HO174.out.below (HS180.out.below _) (Nat.le_refl _))
      clear HO174
      have HO184 := Lib.hid (HO175.out.below (HS180.out.below _) (Nat.le_refl _))
      clear HO175
      have HB185 : Hid (Below w.heap.size w w177) := Lib.hid (HB176.out.trans (HS180.out.below w.heap.size))
      clear HB176
      clear HS180
      go_wp2_with fail
      refine (L_eqIntS _ _ _ _ _ _ HO184.out.rd HO182.out.rd (by omega) (by omega) HO184.out.small).mono ?_
      rintro e w186 ⟨rfl, hx187⟩
      have z188 : w177.heap.size ≤ w186.heap.size := by rw [hx187.sz]; exact Nat.le_refl _
      have HS189 := Lib.hid hx187
      clear hx187
      have HO190 := Lib.hid (HO181.out.below (HS189.out.below _) (Nat.le_refl _))
      clear HO181
      have HO191 := Lib.hid (HO182.out.below (HS189.out.below _) (Nat.le_refl _))
      clear HO182
      have HO192 := Lib.hid (HO183.out.below (HS189.out.below _) (Nat.le_refl _))
      clear HO183
      have HO193 := Lib.hid (HO184.out.below (HS189.out.below _) (Nat.le_refl _))
      clear HO184
      have HB194 : Hid (Below w.heap.size w w186) := Lib.hid (HB185.out.trans (HS189.out.below w.heap.size))
      clear HB185
      clear HS189
      have hs195 := HO192.out.small
      go_wp2_with fail
      refine (L_markIntS _ _ _ _ _ _ HO192.out (by omega) (by omega)).mono ?_
      rintro e w196 ⟨K197, rfl, hk198, h0_199, h1_200, hx201, hy202, z203, z204⟩
      have HO205 := Lib.hid hx201
      have HS206 := Lib.hid hy202
      clear hx201 hy202
      have HO207 := Lib.hid (HO190.out.kept HS206.out (by omega) (by omega))
      clear HO190
      have HO208 := Lib.hid (HO191.out.kept HS206.out (by omega) (by omega))
      clear HO191
      have HO209 := Lib.hid (HO193.out.kept HS206.out (by omega) (by omega))
      clear HO193
      have HB210 : Hid (Below w.heap.size w w196) := Lib.hid (HB194.out.trans ((HS206.out.to_below (by omega)).mono (by omega)))
      clear HB194
      clear HS206 HO192
      have hs211 := HO209.out.small
      go_wp2_with fail
      refine (L_markIntS _ _ _ _ _ _ HO209.out (by omega) (by omega)).mono ?_
      rintro e w212 ⟨K213, rfl, hk214, h0_215, h1_216, hx217, hy218, z219, z220⟩
      have HO221 := Lib.hid hx217
      have HS222 := Lib.hid hy218
      clear hx217 hy218
      have HO223 := Lib.hid (HO207.out.kept HS222.out (by omega) (by omega))
      clear HO207
      have HO224 := Lib.hid (HO208.out.kept HS222.out (by omega) (by omega))
      clear HO208
      have HO225 := Lib.hid (HO205.out.kept HS222.out (by omega) (by omega))
      clear HO205
      have HB226 : Hid (Below w.heap.size w w212) := Lib.hid (HB210.out.trans ((HS222.out.to_below (by omega)).mono (by omega)))
      clear HB210
      clear HS222 HO209
      go_wp2_with fail
      refine (L_heldIntS _ _ (R_PolyDivide_0 d_aA d_aB) 1 _ _ HO225.out.rd hs195 (Lib.hid rfl) (by omega) (by omega)).mono ?_
      rintro e w227 ⟨K228, rfl, hk229, h0_230, h1_231, hx232⟩
      have z233 : w212.heap.size ≤ w227.heap.size := by rw [hx232.sz]; exact Nat.le_refl _
      have HS234 := Lib.hid hx232
      clear hx232
      have HE235 : Hid (K228 = K197) := Lib.hid (by rw [hk229.out, hk198.out])
      have hne236 : (K228 != K197) = false := by rw [HE235.out]; simp
      have HO237 := Lib.hid (HO223.out.below (HS234.out.below _) (Nat.le_refl _))
      clear HO223
      have HO238 := Lib.hid (HO224.out.below (HS234.out.below _) (Nat.le_refl _))
      clear HO224
      have HO239 := Lib.hid (HO225.out.below (HS234.out.below _) (Nat.le_refl _))
      clear HO225
      have HO240 := Lib.hid (HO221.out.below (HS234.out.below _) (Nat.le_refl _))
      clear HO221
      have HB241 : Hid (Below w.heap.size w w227) := Lib.hid (HB226.out.trans (HS234.out.below w.heap.size))
      clear HB226
      clear HS234
      go_wp2_with fail
      refine (L_heldIntS _ _ (R_PolyDivide_1 d_aA d_aB) K197 _ _ HO240.out.rd hs211 HE235 (by omega) (by omega)).mono ?_
      rintro e w242 ⟨K243, rfl, hk244, h0_245, h1_246, hx247⟩
      have z248 : w227.heap.size ≤ w242.heap.size := by rw [hx247.sz]; exact Nat.le_refl _
      have HS249 := Lib.hid hx247
      clear hx247
      have HE250 : Hid (K243 = K213) := Lib.hid (by rw [hk244.out, hk214.out])
      have hne251 : (K243 != K213) = false := by rw [HE250.out]; simp
      have HO252 := Lib.hid (HO237.out.below (HS249.out.below _) (Nat.le_refl _))
      clear HO237
      have HO253 := Lib.hid (HO238.out.below (HS249.out.below _) (Nat.le_refl _))
      clear HO238
      have HO254 := Lib.hid (HO239.out.below (HS249.out.below _) (Nat.le_refl _))
      clear HO239
      have HO255 := Lib.hid (HO240.out.below (HS249.out.below _) (Nat.le_refl _))
      clear HO240
      have HB256 : Hid (Below w.heap.size w w242) := Lib.hid (HB241.out.trans (HS249.out.below w.heap.size))
      clear HB241
      clear HS249
      go_wp2_with fail
      refine (L_toIntS _ _ _ _ (RdIntS.below Ha_aA.out HB256.out) HB256.out.size hs_aA).mono ?_
      rintro e w258 ⟨v257, rfl, hx262, hy263⟩
      have z261 : w242.heap.size ≤ w258.heap.size := hy263.size
      have HO259 := Lib.hid hx262
      have HS260 := Lib.hid hy263
      clear hx262 hy263
      have HO264 := Lib.hid (HO252.out.below HS260.out (by omega))
      clear HO252
      have HO265 := Lib.hid (HO253.out.below HS260.out (by omega))
      clear HO253
      have HO266 := Lib.hid (HO254.out.below HS260.out (by omega))
      clear HO254
      have HO267 := Lib.hid (HO255.out.below HS260.out (by omega))
      clear HO255
      have HB268 : Hid (Below w.heap.size w w258) := Lib.hid (HB256.out.trans (HS260.out.mono (by omega)))
      clear HB256
      clear HS260
      go_wp2_with fail
      refine (L_toIntS _ _ _ _ (RdIntS.below Ha_aB.out HB268.out) HB268.out.size hs_aB).mono ?_
      rintro e w270 ⟨v269, rfl, hx274, hy275⟩
      have z273 : w258.heap.size ≤ w270.heap.size := hy275.size
      have HO271 := Lib.hid hx274
      have HS272 := Lib.hid hy275
      clear hx274 hy275
      have HO276 := Lib.hid (HO264.out.below HS272.out (by omega))
      clear HO264
      have HO277 := Lib.hid (HO265.out.below HS272.out (by omega))
      clear HO265
      have HO278 := Lib.hid (HO266.out.below HS272.out (by omega))
      clear HO266
      have HO279 := Lib.hid (HO267.out.below HS272.out (by omega))
      clear HO267
      have HO280 := Lib.hid (HO259.out.below HS272.out (by omega))
      clear HO259
      have HB281 : Hid (Below w.heap.size w w270) := Lib.hid (HB268.out.trans (HS272.out.mono (by omega)))
      clear HB268
      clear HS272
      go_wp2_with fail
      refine (X_i_PolyDivide _ _ d_aA d_aB _ (HO280.out.rd.more (by omega)) (HO271.out.rd.more (by omega)) hs_aA hs_aB).mono ?_
      rintro e w282 ⟨h0_w282, h1_w282, mid286, rfl, zm287, zm288, hx283, hx284, hy285⟩
      have z289 : w270.heap.size ≤ w282.heap.size := hy285.size
      have HO290 := Lib.hid hx283
      clear hx283
      have HO291 := Lib.hid hx284
      clear hx284
      have HS292 := Lib.hid hy285
      clear hy285
      have HO293 := Lib.hid (HO276.out.below HS292.out (by omega))
      clear HO276
      have HO294 := Lib.hid (HO277.out.below HS292.out (by omega))
      clear HO277
      have HO295 := Lib.hid (HO278.out.below HS292.out (by omega))
      clear HO278
      have HO296 := Lib.hid (HO279.out.below HS292.out (by omega))
      clear HO279
      have HO297 := Lib.hid (HO280.out.below HS292.out (by omega))
      clear HO280
      have HO298 := Lib.hid (HO271.out.below HS292.out (by omega))
      clear HO271
      have HB299 : Hid (Below w.heap.size w w282) := Lib.hid (HB281.out.trans (HS292.out.mono (by omega)))
      clear HB281
      clear HS292
      clear HO297
      clear HO298
      go_wp2_with fail
      refine (L_eqIntS _ _ _ _ _ _ HO290.out.rd HO293.out.rd (by omega) (by omega) HO290.out.small).mono ?_
      rintro e w300 ⟨rfl, hx301⟩
      have z302 : w282.heap.size ≤ w300.heap.size := by rw [hx301.sz]; exact Nat.le_refl _
      have HS303 := Lib.hid hx301
      clear hx301
      have HO304 := Lib.hid (HO293.out.below (HS303.out.below _) (Nat.le_refl _))
      clear HO293
      have HO305 := Lib.hid (HO294.out.below (HS303.out.below _) (Nat.le_refl _))
      clear HO294
      have HO306 := Lib.hid (HO295.out.below (HS303.out.below _) (Nat.le_refl _))
      clear HO295
      have HO307 := Lib.hid (HO296.out.below (HS303.out.below _) (Nat.le_refl _))
      clear HO296
      have HO308 := Lib.hid (HO290.out.below (HS303.out.below _) (Nat.le_refl _))
      clear HO290
      have HO309 := Lib.hid (HO291.out.below (HS303.out.below _) (Nat.le_refl _))
      clear HO291
      have HB310 : Hid (Below w.heap.size w w300) := Lib.hid (HB299.out.trans (HS303.out.below w.heap.size))
      clear HB299
      clear HS303
      go_wp2_with fail
      refine (L_eqIntS _ _ _ _ _ _ HO309.out.rd HO305.out.rd (by omega) (by omega) HO309.out.small).mono ?_
      rintro e w311 ⟨rfl, hx312⟩
      have z313 : w300.heap.size ≤ w311.heap.size := by rw [hx312.sz]; exact Nat.le_refl _
      have HS314 := Lib.hid hx312
      clear hx312
      have HO315 := Lib.hid (HO304.out.below (HS314.out.below _) (Nat.le_refl _))
      clear HO304
      have HO316 := Lib.hid (HO305.out.below (HS314.out.below _) (Nat.le_refl _))
      clear HO305
      have HO317 := Lib.hid (HO306.out.below (HS314.out.below _) (Nat.le_refl _))
      clear HO306
      have HO318 := Lib.hid (HO307.out.below (HS314.out.below _) (Nat.le_refl _))
      clear HO307
      have HO319 := Lib.hid (HO308.out.below (HS314.out.below _) (Nat.le_refl _))
      clear HO308
      have HO320 := Lib.hid (HO309.out.below (HS314.out.below _) (Nat.le_refl _))
      clear HO309
      have HB321 : Hid (Below w.heap.size w w311) := Lib.hid (HB310.out.trans (HS314.out.below w.heap.size))
      clear HB310
      clear HS314
      go_wp2_with fail
      refine (L_heldIntS _ _ (R_PolyDivide_0 d_aA d_aB) 1 _ _ HO317.out.rd hs195 (Lib.hid rfl) (by omega) (by omega)).mono ?_
      rintro e w322 ⟨K323, rfl, hk324, h0_325, h1_326, hx327⟩
      have z328 : w311.heap.size ≤ w322.heap.size := by rw [hx327.sz]; exact Nat.le_refl _
      have HS329 := Lib.hid hx327
      clear hx327
      have HE330 : Hid (K323 = K197) := Lib.hid (by rw [hk324.out, hk198.out])
      have hne331 : (K323 != K197) = false := by rw [HE330.out]; simp
      have HO332 := Lib.hid (HO315.out.below (HS329.out.below _) (Nat.le_refl _))
      clear HO315
      have HO333 := Lib.hid (HO316.out.below (HS329.out.below _) (Nat.le_refl _))
      clear HO316
      have HO334 := Lib.hid (HO317.out.below (HS329.out.below _) (Nat.le_refl _))
      clear HO317
      have HO335 := Lib.hid (HO318.out.below (HS329.out.below _) (Nat.le_refl _))
      clear HO318
      have HO336 := Lib.hid (HO319.out.below (HS329.out.below _) (Nat.le_refl _))
      clear HO319
      have HO337 := Lib.hid (HO320.out.below (HS329.out.below _) (Nat.le_refl _))
      clear HO320
      have HB338 : Hid (Below w.heap.size w w322) := Lib.hid (HB321.out.trans (HS329.out.below w.heap.size))
      clear HB321
      clear HS329
      go_wp2_with fail
      refine (L_heldIntS _ _ (R_PolyDivide_1 d_aA d_aB) K197 _ _ HO335.out.rd hs211 HE330 (by omega) (by omega)).mono ?_
      rintro e w339 ⟨K340, rfl, hk341, h0_342, h1_343, hx344⟩
      have z345 : w322.heap.size ≤ w339.heap.size := by rw [hx344.sz]; exact Nat.le_refl _
      have HS346 := Lib.hid hx344
      clear hx344
      have HE347 : Hid (K340 = K213) := Lib.hid (by rw [hk341.out, hk214.out])
      have hne348 : (K340 != K213) = false := by rw [HE347.out]; simp
      have HO349 := Lib.hid (HO332.out.below (HS346.out.below _) (Nat.le_refl _))
      clear HO332
      have HO350 := Lib.hid (HO333.out.below (HS346.out.below _) (Nat.le_refl _))
      clear HO333
      have HO351 := Lib.hid (HO334.out.below (HS346.out.below _) (Nat.le_refl _))
      clear HO334
      have HO352 := Lib.hid (HO335.out.below (HS346.out.below _) (Nat.le_refl _))
      clear HO335
      have HO353 := Lib.hid (HO336.out.below (HS346.out.below _) (Nat.le_refl _))
      clear HO336
      have HO354 := Lib.hid (HO337.out.below (HS346.out.below _) (Nat.le_refl _))
      clear HO337
      have HB355 : Hid (Below w.heap.size w w339) := Lib.hid (HB338.out.trans (HS346.out.below w.heap.size))
      clear HB338
      clear HS346
      go_wp2
      go_ret
      exact ⟨rfl, HB355.out⟩
    · have hn_aB : ¬ n_aB ≤ 1048576 := by have := h_aB.len; unfold szIntS at hs_aB; omega
      go_enter Try.func7, Try.ntmps7
      go_wp2
      go_ret
      exact ⟨rfl, Below.refl _ _⟩
  · have hn_aA : ¬ n_aA ≤ 1048576 := by have := h_aA.len; unfold szIntS at hs_aA; omega
    go_enter Try.func7, Try.ntmps7
    go_wp2
    go_ret
    exact ⟨rfl, Below.refl _ _⟩

set_option maxRecDepth 100000 in
theorem lifted (os : Os) (started : os.Started) (H : Type) (enc : TypeId × Value → H) :
    ReturnsInHanded {} Try.checked os 7 .any (Rows.fnExactPolyDivideSpec.pre6 enc Try.prog Try.f7 Rows.fnExactPolyDivideRow.domain false) (Rows.fnExactPolyDivideSpec.post enc Try.prog Try.f7 false true false false) := by
  refine returnsInHanded_of_change (C := Try.checked) own started (by kernel_rfl) Try.func7
    (ChangeSpec.witness6 (enc := enc) (C := Try.checked) false ⟨#[], #[.slice none 0 0, .slice none 0 0], []⟩ 8 (by kernel_rfl) (by kernel_rfl) (by kernel_rfl) (by kernel_rfl)) ?_
  intro W base args ds gs before hval0 hW hcnd _
  have hval : ∀ (j : Nat) t v, Try.f7.params[j]? = some t → args[j]? = some v → Value.okWide Try.prog W .any base t v := hval0
  have hW' := hW
  obtain ⟨p, q, hA0, hV, rfl, hfz, hnd⟩ := hW
  have hA : DataW.TrodAll enc Try.prog W 0 (fun _ => true) true Try.f7.params.toList args.toList ds p := hA0
  rw [Try.params7] at hA hval
  obtain ⟨v0, vs0, dd0, ds0, p0, q0, hargs, rfl, rfl, h0, r0⟩ := trodAll_cons hA
  obtain ⟨v1, vs1, dd1, ds1, p1, q1, rfl, rfl, rfl, h1, r1⟩ := trodAll_cons r0
  obtain ⟨rfl, rfl, rfl⟩ := trodAll_nil r1
  obtain rfl : args = #[v0, v1] := by cases args; simp_all
  obtain ⟨rfl, rfl⟩ := trodVars_none hV
  obtain ⟨A_aA, n_aA, c_aA, d_aA, rfl, hm_aA, h_aA⟩ := open_intS Try.underlying22 Try.underlying3 (by kernel_rfl) (hval 0 22 v0 rfl rfl) h0
  obtain ⟨A_aB, n_aB, c_aB, d_aB, rfl, hm_aB, h_aB⟩ := open_intS Try.underlying22 Try.underlying3 (by kernel_rfl) (hval 1 22 v1 rfl rfl) h1
  refine (walk A_aA n_aA c_aA d_aA A_aB n_aB c_aB d_aB W hm_aA h_aA hm_aB h_aB).mono fun e W' ⟨he, hb⟩ => ?_
  subst he
  exact ⟨_, rfl, post_law rfl rfl Try.underlying4 (by kernel_rfl) (by kernel_rfl) hW' rfl hb⟩

theorem over : Rows.fnExactPolyDivideRow.holds Try.pinned (OpenSpec.ofChange Rows.fnExactPolyDivideSpec) :=
  OpenClaim.holds_of_wide 7 Try.f7 rfl rfl rfl rfl rfl rfl rfl ⟨rfl, rfl, rfl, rfl, rfl⟩ rfl rfl rfl rfl rfl (by kernel_rfl) Try.func7 (by kernel_rfl)
    (of_decide_eq_true (by kernel_rfl)) (by unfold Func.isWrapper; first | (rw [if_pos (by decide +kernel)]; kernel_rfl) | (rw [if_neg (by decide +kernel)]; exact ⟨rfl, rfl⟩))
    (fun os started H enc _ => lifted os started H enc)
/-- the statement -/
theorem proved : Rows.FnExactPolyDivideSaid :=
  over
end Go.Proofs.Ytblfbibmimodiaa.fnExactPolyDivide
