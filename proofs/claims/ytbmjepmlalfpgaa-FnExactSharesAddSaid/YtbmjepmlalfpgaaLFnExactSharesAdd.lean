/- FnExactSharesAdd answers true at every input: at each argument the function and its model answer alike, no argument is written, and the answer owns its memory. No condition. -/
import Derived.Test.YtbmjepmlalfpgaaRows
import Derived.Test.YtbmjepmlalfpgaaLaw
import Derived.Test.YtbmjepmlalfpgaaDoor
import Derived.Test.YtbmjepmlalfpgaaWalk5r
import Derived.Test.YtbmjepmlalfpgaaFaceP
import Derived.Test.YtbmjepmlalfpgaaWalk5d
namespace Go.Proofs.Ytbmjepmlalfpgaa.fnExactSharesAdd
open Go.ChangeShapes Go.WideShapes Go.ChangeAt Go.RowKit
theorem own : ownKnob Try.prog.godebug = none := by kernel_rfl
set_option maxRecDepth 100000 in
set_option maxHeartbeats 4000000 in
theorem walk (A_aA : Option Addr) (n_aA c_aA : Nat) (d_aA : List (Int × Int)) (A_aB : Option Addr) (n_aB c_aB : Nat) (d_aB : List (Int × Int)) (w : World) (hm_aA : n_aA ≤ 9223372036854775807) (h_aA : Rd w w.heap.size 2 A_aA n_aA (cP d_aA)) (hm_aB : n_aB ≤ 9223372036854775807) (h_aB : Rd w w.heap.size 2 A_aB n_aB (cP d_aB)) :
    Calls Try.prog 5 #[.slice A_aA n_aA c_aA, .slice A_aB n_aB c_aB] w fun e w' => e = .returned (.bool true) ∧ Below w.heap.size w w' := by
  have Ha_aA : Hid (RdPointS w w.heap.size (.slice A_aA n_aA c_aA) d_aA) := Lib.hid (⟨A_aA, n_aA, c_aA, rfl, hm_aA, h_aA⟩)
  have Ha_aB : Hid (RdPointS w w.heap.size (.slice A_aB n_aB c_aB) d_aB) := Lib.hid (⟨A_aB, n_aB, c_aB, rfl, hm_aB, h_aB⟩)
  clear h_aA h_aB
  go_enter Try.func5, Try.ntmps5
  go_wp2_with fail
  rcases Int.lt_or_le 1048576 (szPointS d_aA : Nat) with hl1 | hl1
  · refine (L_szPointS_no _ _ _ _ _ Ha_aA.out (by omega) (by omega) hl1).mono ?_
    rintro e w' ⟨rfl, hb⟩
    have hb2 := Lib.hid hb
    clear hb
    go_wp2
    go_ret
    exact ⟨rfl, hb2.out⟩
  refine (L_szPointS_ok _ _ _ _ _ Ha_aA.out (by omega) (by omega) hl1).mono ?_
  rintro e w2 ⟨L3, rfl, hx6, h0_4, h1_5, hy7⟩
  have hs_aA : szPointS d_aA ≤ 1048576 := by omega
  have z8 : w.heap.size ≤ w2.heap.size := hy7.size
  have HS9 := Lib.hid hy7
  clear hy7
  have HB10 : Hid (Below w.heap.size w w2) := Lib.hid (HS9.out.mono (by omega))
  clear HS9
  go_wp2_with fail
  rcases Int.lt_or_le L3 (szPointS d_aB : Nat) with hl11 | hl11
  · refine (L_szPointS_no _ _ _ _ _ (RdPointS.below Ha_aB.out HB10.out) (by omega) (by omega) hl11).mono ?_
    rintro e w' ⟨rfl, hb⟩
    have hb2 := Lib.hid (HB10.out.trans (hb.mono (by omega)))
    clear hb
    go_wp2
    go_ret
    exact ⟨rfl, hb2.out⟩
  refine (L_szPointS_ok _ _ _ _ _ (RdPointS.below Ha_aB.out HB10.out) (by omega) (by omega) hl11).mono ?_
  rintro e w12 ⟨L13, rfl, hx16, h0_14, h1_15, hy17⟩
  have hs_aB : szPointS d_aB ≤ 1048576 := by omega
  have z18 : w2.heap.size ≤ w12.heap.size := hy17.size
  have HS19 := Lib.hid hy17
  clear hy17
  have HB20 : Hid (Below w.heap.size w w12) := Lib.hid (HB10.out.trans (HS19.out.mono (by omega)))
  clear HB10
  clear HS19
  go_wp2_with fail
  refine (L_toPointS _ _ _ _ (RdPointS.below Ha_aA.out HB20.out) HB20.out.size hs_aA).mono ?_
  rintro e w22 ⟨v21, rfl, hx26, hy27⟩
  have z25 : w12.heap.size ≤ w22.heap.size := hy27.size
  have HO23 := Lib.hid hx26
  have HS24 := Lib.hid hy27
  clear hx26 hy27
  have HB28 : Hid (Below w.heap.size w w22) := Lib.hid (HB20.out.trans (HS24.out.mono (by omega)))
  clear HB20
  clear HS24
  go_wp2_with fail
  refine (L_toPointS _ _ _ _ (RdPointS.below Ha_aB.out HB28.out) HB28.out.size hs_aB).mono ?_
  rintro e w30 ⟨v29, rfl, hx34, hy35⟩
  have z33 : w22.heap.size ≤ w30.heap.size := hy35.size
  have HO31 := Lib.hid hx34
  have HS32 := Lib.hid hy35
  clear hx34 hy35
  have HO36 := Lib.hid (HO23.out.below HS32.out (by omega))
  clear HO23
  have HB37 : Hid (Below w.heap.size w w30) := Lib.hid (HB28.out.trans (HS32.out.mono (by omega)))
  clear HB28
  clear HS32
  go_wp2_with fail
  refine (X_s_SharesAdd _ _ d_aA d_aB _ (HO36.out.rd.more (by omega)) (HO31.out.rd.more (by omega)) hs_aA hs_aB).mono ?_
  rintro e w38 ⟨w0_w38, rfl, hx39, hy40⟩
  have z41 : w30.heap.size ≤ w38.heap.size := hy40.size
  have HO42 := Lib.hid hx39
  clear hx39
  have HS43 := Lib.hid hy40
  clear hy40
  have HO44 := Lib.hid (HO36.out.below HS43.out (by omega))
  clear HO36
  have HO45 := Lib.hid (HO31.out.below HS43.out (by omega))
  clear HO31
  have HB46 : Hid (Below w.heap.size w w38) := Lib.hid (HB37.out.trans (HS43.out.mono (by omega)))
  clear HB37
  clear HS43
  clear HO44
  clear HO45
  go_wp2_with fail
  refine (L_toPointS _ _ _ _ (RdPointS.below Ha_aA.out HB46.out) HB46.out.size hs_aA).mono ?_
  rintro e w48 ⟨v47, rfl, hx52, hy53⟩
  have z51 : w38.heap.size ≤ w48.heap.size := hy53.size
  have HO49 := Lib.hid hx52
  have HS50 := Lib.hid hy53
  clear hx52 hy53
  have HO54 := Lib.hid (HO42.out.below HS50.out (by omega))
  clear HO42
  have HB55 : Hid (Below w.heap.size w w48) := Lib.hid (HB46.out.trans (HS50.out.mono (by omega)))
  clear HB46
  clear HS50
  go_wp2_with fail
  refine (L_toPointS _ _ _ _ (RdPointS.below Ha_aB.out HB55.out) HB55.out.size hs_aB).mono ?_
  rintro e w57 ⟨v56, rfl, hx61, hy62⟩
  have z60 : w48.heap.size ≤ w57.heap.size := hy62.size
  have HO58 := Lib.hid hx61
  have HS59 := Lib.hid hy62
  clear hx61 hy62
  have HO63 := Lib.hid (HO54.out.below HS59.out (by omega))
  clear HO54
  have HO64 := Lib.hid (HO49.out.below HS59.out (by omega))
  clear HO49
  have HB65 : Hid (Below w.heap.size w w57) := Lib.hid (HB55.out.trans (HS59.out.mono (by omega)))
  clear HB55
  clear HS59
  go_wp2_with fail
  refine (X_i_SharesAdd _ _ d_aA d_aB _ (HO64.out.rd.more (by omega)) (HO58.out.rd.more (by omega)) hs_aA hs_aB).mono ?_
  rintro e w66 ⟨g0_w66, rfl, hx67, hy68⟩
  have z69 : w57.heap.size ≤ w66.heap.size := hy68.size
  have HO70 := Lib.hid hx67
  clear hx67
  have HS71 := Lib.hid hy68
  clear hy68
  have HO72 := Lib.hid (HO63.out.below HS71.out (by omega))
  clear HO63
  have HO73 := Lib.hid (HO64.out.below HS71.out (by omega))
  clear HO64
  have HO74 := Lib.hid (HO58.out.below HS71.out (by omega))
  clear HO58
  have HB75 : Hid (Below w.heap.size w w66) := Lib.hid (HB65.out.trans (HS71.out.mono (by omega)))
  clear HB65
  clear HS71
  go_wp2_with fail
  refine (L_eqPointS _ _ _ _ _ _ HO70.out.rd HO72.out.rd (by omega) (by omega) HO70.out.small).mono ?_
  rintro e w76 ⟨rfl, hx77⟩
  have z78 : w66.heap.size ≤ w76.heap.size := hx77.size
  have HS79 := Lib.hid hx77
  clear hx77
  have HO80 := Lib.hid (HO72.out.below HS79.out (by omega))
  clear HO72
  have HO81 := Lib.hid (HO73.out.below HS79.out (by omega))
  clear HO73
  have HO82 := Lib.hid (HO74.out.below HS79.out (by omega))
  clear HO74
  have HO83 := Lib.hid (HO70.out.below HS79.out (by omega))
  clear HO70
  have HB84 : Hid (Below w.heap.size w w76) := Lib.hid (HB75.out.trans (HS79.out.mono (by omega)))
  clear HB75
  clear HS79
  go_wp2_with fail
  refine (L_toPointS _ _ _ _ (RdPointS.below Ha_aA.out HB84.out) HB84.out.size hs_aA).mono ?_
  rintro e w86 ⟨v85, rfl, hx90, hy91⟩
  have z89 : w76.heap.size ≤ w86.heap.size := hy91.size
  have HO87 := Lib.hid hx90
  have HS88 := Lib.hid hy91
  clear hx90 hy91
  have HO92 := Lib.hid (HO80.out.below HS88.out (by omega))
  clear HO80
  have HO93 := Lib.hid (HO81.out.below HS88.out (by omega))
  clear HO81
  have HO94 := Lib.hid (HO82.out.below HS88.out (by omega))
  clear HO82
  have HO95 := Lib.hid (HO83.out.below HS88.out (by omega))
  clear HO83
  have HB96 : Hid (Below w.heap.size w w86) := Lib.hid (HB84.out.trans (HS88.out.mono (by omega)))
  clear HB84
  clear HS88
  go_wp2_with fail
  refine (L_eqPointS _ _ _ _ _ _ HO93.out.rd HO87.out.rd (by omega) (by omega) HO93.out.small).mono ?_
  rintro e w97 ⟨rfl, hx98⟩
  have z99 : w86.heap.size ≤ w97.heap.size := hx98.size
  have HS100 := Lib.hid hx98
  clear hx98
  have HO101 := Lib.hid (HO92.out.below HS100.out (by omega))
  clear HO92
  have HO102 := Lib.hid (HO93.out.below HS100.out (by omega))
  clear HO93
  have HO103 := Lib.hid (HO94.out.below HS100.out (by omega))
  clear HO94
  have HO104 := Lib.hid (HO95.out.below HS100.out (by omega))
  clear HO95
  have HO105 := Lib.hid (HO87.out.below HS100.out (by omega))
  clear HO87
  have HB106 : Hid (Below w.heap.size w w97) := Lib.hid (HB96.out.trans (HS100.out.mono (by omega)))
  clear HB96
  clear HS100
  clear HO105
  go_wp2_with fail
  refine (L_toPointS _ _ _ _ (RdPointS.below Ha_aB.out HB106.out) HB106.out.size hs_aB).mono ?_
  rintro e w108 ⟨v107, rfl, hx112, hy113⟩
  have z111 : w97.heap.size ≤ w108.heap.size := hy113.size
  have HO109 := Lib.hid hx112
  have HS110 := Lib.hid hy113
  clear hx112 hy113
  have HO114 := Lib.hid (HO101.out.below HS110.out (by omega))
  clear HO101
  have HO115 := Lib.hid (HO102.out.below HS110.out (by omega))
  clear HO102
  have HO116 := Lib.hid (HO103.out.below HS110.out (by omega))
  clear HO103
  have HO117 := Lib.hid (HO104.out.below HS110.out (by omega))
  clear HO104
  have HB118 : Hid (Below w.heap.size w w108) := Lib.hid (HB106.out.trans (HS110.out.mono (by omega)))
  clear HB106
  clear HS110
  go_wp2_with fail
  refine (L_eqPointS _ _ _ _ _ _ HO116.out.rd HO109.out.rd (by omega) (by omega) HO116.out.small).mono ?_
  rintro e w119 ⟨rfl, hx120⟩
  have z121 : w108.heap.size ≤ w119.heap.size := hx120.size
  have HS122 := Lib.hid hx120
  clear hx120
  have HO123 := Lib.hid (HO114.out.below HS122.out (by omega))
  clear HO114
  have HO124 := Lib.hid (HO115.out.below HS122.out (by omega))
  clear HO115
  have HO125 := Lib.hid (HO116.out.below HS122.out (by omega))
  clear HO116
  have HO126 := Lib.hid (HO117.out.below HS122.out (by omega))
  clear HO117
  have HO127 := Lib.hid (HO109.out.below HS122.out (by omega))
  clear HO109
  have HB128 : Hid (Below w.heap.size w w119) := Lib.hid (HB118.out.trans (HS122.out.mono (by omega)))
  clear HB118
  clear HS122
  clear HO127
  go_wp2_with fail
  refine (L_markPointS _ _ _ _ _ _ HO124.out (by omega) (by omega) (by omega)).mono ?_
  rintro e w129 ⟨K130, rfl, hk131, h0_132, h1_133, hx134, hy135⟩
  have z136 : w119.heap.size ≤ w129.heap.size := hy135.size
  have HO137 := Lib.hid hx134
  have HS138 := Lib.hid hy135
  clear hx134 hy135
  have HO139 := Lib.hid (HO123.out.kept HS138.out (by omega) (by omega))
  clear HO123
  have HO140 := Lib.hid (HO125.out.kept HS138.out (by omega) (by omega))
  clear HO125
  have HO141 := Lib.hid (HO126.out.kept HS138.out (by omega) (by omega))
  clear HO126
  have HB142 : Hid (Below w.heap.size w w129) := Lib.hid (HB128.out.trans ((HS138.out.to_below (by omega)).mono (by omega)))
  clear HB128
  clear HS138 HO124
  go_wp2_with fail
  refine (L_markPointS _ _ _ _ _ _ HO140.out (by omega) (by omega) (by omega)).mono ?_
  rintro e w143 ⟨K144, rfl, hk145, h0_146, h1_147, hx148, hy149⟩
  have z150 : w129.heap.size ≤ w143.heap.size := hy149.size
  have HO151 := Lib.hid hx148
  have HS152 := Lib.hid hy149
  clear hx148 hy149
  have HO153 := Lib.hid (HO139.out.kept HS152.out (by omega) (by omega))
  clear HO139
  have HO154 := Lib.hid (HO137.out.kept HS152.out (by omega) (by omega))
  clear HO137
  have HO155 := Lib.hid (HO141.out.kept HS152.out (by omega) (by omega))
  clear HO141
  have HB156 : Hid (Below w.heap.size w w143) := Lib.hid (HB142.out.trans ((HS152.out.to_below (by omega)).mono (by omega)))
  clear HB142
  clear HS152 HO140
  clear HO154
  clear HO151
  go_wp2_with fail
  refine (L_eqPointS _ _ _ _ _ _ HO155.out.rd HO153.out.rd (by omega) (by omega) HO155.out.small).mono ?_
  rintro e w157 ⟨rfl, hx158⟩
  have z159 : w143.heap.size ≤ w157.heap.size := hx158.size
  have HS160 := Lib.hid hx158
  clear hx158
  have HO161 := Lib.hid (HO153.out.below HS160.out (by omega))
  clear HO153
  have HO162 := Lib.hid (HO155.out.below HS160.out (by omega))
  clear HO155
  have HB163 : Hid (Below w.heap.size w w157) := Lib.hid (HB156.out.trans (HS160.out.mono (by omega)))
  clear HB156
  clear HS160
  have hs164 := HO162.out.small
  go_wp2_with fail
  refine (L_markPointS _ _ _ _ _ _ HO162.out (by omega) (by omega) (by omega)).mono ?_
  rintro e w165 ⟨K166, rfl, hk167, h0_168, h1_169, hx170, hy171⟩
  have z172 : w157.heap.size ≤ w165.heap.size := hy171.size
  have HO173 := Lib.hid hx170
  have HS174 := Lib.hid hy171
  clear hx170 hy171
  have HO175 := Lib.hid (HO161.out.kept HS174.out (by omega) (by omega))
  clear HO161
  have HB176 : Hid (Below w.heap.size w w165) := Lib.hid (HB163.out.trans ((HS174.out.to_below (by omega)).mono (by omega)))
  clear HB163
  clear HS174 HO162
  go_wp2_with fail
  refine (L_heldPointS _ _ (R_SharesAdd_0 d_aA d_aB) 1 _ _ HO173.out.rd (by omega) hs164 (Lib.hid rfl) (by omega) (by omega)).mono ?_
  rintro e w177 ⟨K178, rfl, hk179, h0_180, h1_181, hx182⟩
  have z183 : w165.heap.size ≤ w177.heap.size := hx182.size
  have HS184 := Lib.hid hx182
  clear hx182
  have HE185 : Hid (K178 = K166) := Lib.hid (by rw [hk179.out, hk167.out])
  have hne186 : (K178 != K166) = false := by rw [HE185.out]; simp
  have HO187 := Lib.hid (HO175.out.below HS184.out (by omega))
  clear HO175
  have HO188 := Lib.hid (HO173.out.below HS184.out (by omega))
  clear HO173
  have HB189 : Hid (Below w.heap.size w w177) := Lib.hid (HB176.out.trans (HS184.out.mono (by omega)))
  clear HB176
  clear HS184
  go_wp2_with fail
  refine (L_toPointS _ _ _ _ (RdPointS.below Ha_aA.out HB189.out) HB189.out.size hs_aA).mono ?_
  rintro e w191 ⟨v190, rfl, hx195, hy196⟩
  have z194 : w177.heap.size ≤ w191.heap.size := hy196.size
  have HO192 := Lib.hid hx195
  have HS193 := Lib.hid hy196
  clear hx195 hy196
  have HO197 := Lib.hid (HO187.out.below HS193.out (by omega))
  clear HO187
  have HO198 := Lib.hid (HO188.out.below HS193.out (by omega))
  clear HO188
  have HB199 : Hid (Below w.heap.size w w191) := Lib.hid (HB189.out.trans (HS193.out.mono (by omega)))
  clear HB189
  clear HS193
  go_wp2_with fail
  refine (L_toPointS _ _ _ _ (RdPointS.below Ha_aB.out HB199.out) HB199.out.size hs_aB).mono ?_
  rintro e w201 ⟨v200, rfl, hx205, hy206⟩
  have z204 : w191.heap.size ≤ w201.heap.size := hy206.size
  have HO202 := Lib.hid hx205
  have HS203 := Lib.hid hy206
  clear hx205 hy206
  have HO207 := Lib.hid (HO197.out.below HS203.out (by omega))
  clear HO197
  have HO208 := Lib.hid (HO198.out.below HS203.out (by omega))
  clear HO198
  have HO209 := Lib.hid (HO192.out.below HS203.out (by omega))
  clear HO192
  have HB210 : Hid (Below w.heap.size w w201) := Lib.hid (HB199.out.trans (HS203.out.mono (by omega)))
  clear HB199
  clear HS203
  go_wp2_with fail
  refine (X_i_SharesAdd _ _ d_aA d_aB _ (HO209.out.rd.more (by omega)) (HO202.out.rd.more (by omega)) hs_aA hs_aB).mono ?_
  rintro e w211 ⟨h0_w211, rfl, hx212, hy213⟩
  have z214 : w201.heap.size ≤ w211.heap.size := hy213.size
  have HO215 := Lib.hid hx212
  clear hx212
  have HS216 := Lib.hid hy213
  clear hy213
  have HO217 := Lib.hid (HO207.out.below HS216.out (by omega))
  clear HO207
  have HO218 := Lib.hid (HO208.out.below HS216.out (by omega))
  clear HO208
  have HO219 := Lib.hid (HO209.out.below HS216.out (by omega))
  clear HO209
  have HO220 := Lib.hid (HO202.out.below HS216.out (by omega))
  clear HO202
  have HB221 : Hid (Below w.heap.size w w211) := Lib.hid (HB210.out.trans (HS216.out.mono (by omega)))
  clear HB210
  clear HS216
  clear HO219
  clear HO220
  go_wp2_with fail
  refine (L_eqPointS _ _ _ _ _ _ HO215.out.rd HO217.out.rd (by omega) (by omega) HO215.out.small).mono ?_
  rintro e w222 ⟨rfl, hx223⟩
  have z224 : w211.heap.size ≤ w222.heap.size := hx223.size
  have HS225 := Lib.hid hx223
  clear hx223
  have HO226 := Lib.hid (HO217.out.below HS225.out (by omega))
  clear HO217
  have HO227 := Lib.hid (HO218.out.below HS225.out (by omega))
  clear HO218
  have HO228 := Lib.hid (HO215.out.below HS225.out (by omega))
  clear HO215
  have HB229 : Hid (Below w.heap.size w w222) := Lib.hid (HB221.out.trans (HS225.out.mono (by omega)))
  clear HB221
  clear HS225
  go_wp2_with fail
  refine (L_heldPointS _ _ (R_SharesAdd_0 d_aA d_aB) 1 _ _ HO227.out.rd (by omega) hs164 (Lib.hid rfl) (by omega) (by omega)).mono ?_
  rintro e w230 ⟨K231, rfl, hk232, h0_233, h1_234, hx235⟩
  have z236 : w222.heap.size ≤ w230.heap.size := hx235.size
  have HS237 := Lib.hid hx235
  clear hx235
  have HE238 : Hid (K231 = K166) := Lib.hid (by rw [hk232.out, hk167.out])
  have hne239 : (K231 != K166) = false := by rw [HE238.out]; simp
  have HO240 := Lib.hid (HO226.out.below HS237.out (by omega))
  clear HO226
  have HO241 := Lib.hid (HO227.out.below HS237.out (by omega))
  clear HO227
  have HO242 := Lib.hid (HO228.out.below HS237.out (by omega))
  clear HO228
  have HB243 : Hid (Below w.heap.size w w230) := Lib.hid (HB229.out.trans (HS237.out.mono (by omega)))
  clear HB229
  clear HS237
  go_wp2
  go_ret
  exact ⟨rfl, HB243.out⟩

set_option maxRecDepth 100000 in
theorem lifted (os : Os) (started : os.Started) (H : Type) (enc : TypeId × Value → H) :
    ReturnsInHanded {} Try.checked os 5 .any (Rows.fnExactSharesAddSpec.pre6 enc Try.prog Try.f5 Rows.fnExactSharesAddRow.domain false) (Rows.fnExactSharesAddSpec.post enc Try.prog Try.f5 false true false false) := by
  refine returnsInHanded_of_change (C := Try.checked) own started (by kernel_rfl) Try.func5
    (ChangeSpec.witness6 (enc := enc) (C := Try.checked) false ⟨#[], #[.slice none 0 0, .slice none 0 0], []⟩ 8 (by kernel_rfl) (by kernel_rfl) (by kernel_rfl) (by kernel_rfl)) ?_
  intro W base args ds gs before hval0 hW hcnd _
  have hval : ∀ (j : Nat) t v, Try.f5.params[j]? = some t → args[j]? = some v → Value.okWide Try.prog W .any base t v := hval0
  have hW' := hW
  obtain ⟨p, q, hA0, hV, rfl, hfz, hnd⟩ := hW
  have hA : DataW.TrodAll enc Try.prog W 0 (fun _ => true) true Try.f5.params.toList args.toList ds p := hA0
  rw [Try.params5] at hA hval
  obtain ⟨v0, vs0, dd0, ds0, p0, q0, hargs, rfl, rfl, h0, r0⟩ := trodAll_cons hA
  obtain ⟨v1, vs1, dd1, ds1, p1, q1, rfl, rfl, rfl, h1, r1⟩ := trodAll_cons r0
  obtain ⟨rfl, rfl, rfl⟩ := trodAll_nil r1
  obtain rfl : args = #[v0, v1] := by cases args; simp_all
  obtain ⟨rfl, rfl⟩ := trodVars_none hV
  obtain ⟨A_aA, n_aA, c_aA, d_aA, rfl, hm_aA, h_aA⟩ := open_pairS Try.underlying35 Try.underlying98 (by kernel_rfl) rfl rfl (by kernel_rfl) (by kernel_rfl) Try.underlying3 Try.underlying3 (hval 0 35 v0 rfl rfl) h0
  obtain ⟨A_aB, n_aB, c_aB, d_aB, rfl, hm_aB, h_aB⟩ := open_pairS Try.underlying35 Try.underlying98 (by kernel_rfl) rfl rfl (by kernel_rfl) (by kernel_rfl) Try.underlying3 Try.underlying3 (hval 1 35 v1 rfl rfl) h1
  refine (walk A_aA n_aA c_aA d_aA A_aB n_aB c_aB d_aB W hm_aA h_aA hm_aB h_aB).mono fun e W' ⟨he, hb⟩ => ?_
  subst he
  exact ⟨_, rfl, post_law rfl rfl Try.underlying4 (by kernel_rfl) (by kernel_rfl) hW' rfl hb⟩

theorem closed : joinedFacts Try.prog 5 Try.f5 Rows.fnExactSharesAddSpec Rows.fnExactSharesAddRow = true := joined_of (by kernel_rfl)
theorem over : Rows.fnExactSharesAddRow.holds Try.pinned (OpenSpec.ofChange Rows.fnExactSharesAddSpec) :=
  OpenClaim.holds_of_wide 5 Try.f5 rfl rfl rfl rfl rfl rfl rfl ⟨rfl, rfl, rfl, rfl, rfl⟩ rfl rfl rfl rfl rfl (by kernel_rfl) Try.func5 closed
    (of_decide_eq_true (by kernel_rfl)) (by unfold Func.isWrapper; first | (rw [if_pos (by decide +kernel)]; kernel_rfl) | (rw [if_neg (by decide +kernel)]; exact ⟨rfl, rfl⟩))
    (fun os started H enc _ => lifted os started H enc)
/-- the statement -/
theorem proved : Rows.FnExactSharesAddSaid :=
  over
end Go.Proofs.Ytbmjepmlalfpgaa.fnExactSharesAdd
