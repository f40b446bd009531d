/- FnExactPairAsk answers true at every input: at each argument the function and its model answer alike, no argument is written, and the answer owns its memory. No condition. -/
import Derived.Test.YtbabkaofhhaneaaRows
import Derived.Test.YtbabkaofhhaneaaLaw
import Derived.Test.YtbabkaofhhaneaaDoor
import Derived.Test.YtbabkaofhhaneaaFaceP
import Derived.Test.YtbabkaofhhaneaaMFnExactManyExplain
namespace Go.Proofs.Ytbabkaofhhaneaa.fnExactPairAsk
open Go.ChangeShapes Go.WideShapes Go.ChangeAt Go.RowKit
theorem own : ownKnob Try.prog.godebug = none := by kernel_rfl
set_option maxRecDepth 100000 in
set_option maxHeartbeats 4000000 in
theorem walk (A_aSet : Option Addr) (n_aSet c_aSet : Nat) (d_aSet : List Bool) (aIndex : Int) (w : World) (hm_aSet : n_aSet ≤ 9223372036854775807) (h_aSet : Rd w w.heap.size 1 A_aSet n_aSet (cB d_aSet)) (_w_aIndex : (Lit.int .i64 aIndex).wf = true) :
    Calls Try.prog 4 #[.slice A_aSet n_aSet c_aSet, .int .i64 aIndex] w fun e w' => e = .returned (.bool true) ∧ Below w.heap.size w w' := by
  by_cases hs_aSet : szBoolS d_aSet ≤ 1048576
  · have hn_aSet : n_aSet ≤ 1048576 := by have := h_aSet.blen; unfold szBoolS at hs_aSet; omega
    have Ha_aSet : Hid (RdBoolS w w.heap.size (.slice A_aSet n_aSet c_aSet) d_aSet) := Lib.hid (⟨A_aSet, n_aSet, c_aSet, rfl, hm_aSet, h_aSet⟩)
    clear h_aSet
    go_enter Try.func4, Try.ntmps4
    go_wp2_with fail
    refine (L_toBoolS _ _ _ _ Ha_aSet.out (Nat.le_refl _) hs_aSet).mono ?_
    rintro e w2 ⟨v1, rfl, hx6, hy7⟩
    have z5 : w.heap.size ≤ w2.heap.size := hy7.size
    have HO3 := Lib.hid hx6
    have HS4 := Lib.hid hy7
    clear hx6 hy7
    have HB8 : Hid (Below w.heap.size w w2) := Lib.hid (HS4.out.mono (by omega))
    clear HS4
    go_wp2_with fail
    refine (X_s_PairAsk _ d_aSet aIndex _ (HO3.out.rd.more (by omega)) hs_aSet).mono ?_
    rintro e w9 ⟨w0_w9, w1_w9, mid13, rfl, zm14, zm15, hx10, hx11, hy12⟩
    have z16 : w2.heap.size ≤ w9.heap.size := hy12.size
    have HO17 := Lib.hid hx10
    clear hx10
    have HO18 := Lib.hid hx11
    clear hx11
    have HS19 := Lib.hid hy12
    clear hy12
    have HO20 := Lib.hid (HO3.out.below HS19.out (by omega))
    clear HO3
    have HB21 : Hid (Below w.heap.size w w9) := Lib.hid (HB8.out.trans (HS19.out.mono (by omega)))
    clear HB8
    clear HS19
    clear HO20
    go_wp2_with fail
    refine (L_toBoolS _ _ _ _ (RdBoolS.below Ha_aSet.out HB21.out) HB21.out.size hs_aSet).mono ?_
    rintro e w23 ⟨v22, rfl, hx27, hy28⟩
    have z26 : w9.heap.size ≤ w23.heap.size := hy28.size
    have HO24 := Lib.hid hx27
    have HS25 := Lib.hid hy28
    clear hx27 hy28
    have HO29 := Lib.hid (HO17.out.below HS25.out (by omega))
    clear HO17
    have HO30 := Lib.hid (HO18.out.below HS25.out (by omega))
    clear HO18
    have HB31 : Hid (Below w.heap.size w w23) := Lib.hid (HB21.out.trans (HS25.out.mono (by omega)))
    clear HB21
    clear HS25
    go_wp2_with fail
    refine (X_i_PairAsk _ d_aSet aIndex _ (HO24.out.rd.more (by omega)) hs_aSet).mono ?_
    rintro e w32 ⟨g0_w32, g1_w32, mid36, rfl, zm37, zm38, hx33, hx34, hy35⟩
    have z39 : w23.heap.size ≤ w32.heap.size := hy35.size
    have HO40 := Lib.hid hx33
    clear hx33
    have HO41 := Lib.hid hx34
    clear hx34
    have HS42 := Lib.hid hy35
    clear hy35
    have HO43 := Lib.hid (HO29.out.below HS42.out (by omega))
    clear HO29
    have HO44 := Lib.hid (HO30.out.below HS42.out (by omega))
    clear HO30
    have HO45 := Lib.hid (HO24.out.below HS42.out (by omega))
    clear HO24
    have HB46 : Hid (Below w.heap.size w w32) := Lib.hid (HB31.out.trans (HS42.out.mono (by omega)))
    clear HB31
    clear HS42
    go_wp2_with fail
    refine (L_eqBoolS _ _ _ _ _ _ HO40.out.rd HO43.out.rd (by omega) (by omega) HO40.out.small).mono ?_
    rintro e w47 ⟨rfl, hx48⟩
    have z49 : w32.heap.size ≤ w47.heap.size := hx48.size
    have HS50 := Lib.hid hx48
    clear hx48
    have HO51 := Lib.hid (HO43.out.below HS50.out (by omega))
    clear HO43
    have HO52 := Lib.hid (HO44.out.below HS50.out (by omega))
    clear HO44
    have HO53 := Lib.hid (HO45.out.below HS50.out (by omega))
    clear HO45
    have HO54 := Lib.hid (HO40.out.below HS50.out (by omega))
    clear HO40
    have HO55 := Lib.hid (HO41.out.below HS50.out (by omega))
    clear HO41
    have HB56 : Hid (Below w.heap.size w w47) := Lib.hid (HB46.out.trans (HS50.out.mono (by omega)))
    clear HB46
    clear HS50
    go_wp2_with fail
    refine (L_eqBoolS _ _ _ _ _ _ HO55.out.rd HO52.out.rd (by omega) (by omega) HO55.out.small).mono ?_
    rintro e w57 ⟨rfl, hx58⟩
    have z59 : w47.heap.size ≤ w57.heap.size := hx58.size
    have HS60 := Lib.hid hx58
    clear hx58
    have HO61 := Lib.hid (HO51.out.below HS60.out (by omega))
    clear HO51
    have HO62 := Lib.hid (HO52.out.below HS60.out (by omega))
    clear HO52
    have HO63 := Lib.hid (HO53.out.below HS60.out (by omega))
    clear HO53
    have HO64 := Lib.hid (HO54.out.below HS60.out (by omega))
    clear HO54
    have HO65 := Lib.hid (HO55.out.below HS60.out (by omega))
    clear HO55
    have HB66 : Hid (Below w.heap.size w w57) := Lib.hid (HB56.out.trans (HS60.out.mono (by omega)))
    clear HB56
    clear HS60
    go_wp2_with fail
    refine (L_toBoolS _ _ _ _ (RdBoolS.below Ha_aSet.out HB66.out) HB66.out.size hs_aSet).mono ?_
    rintro e w68 ⟨v67, rfl, hx72, hy73⟩
    have z71 : w57.heap.size ≤ w68.heap.size := hy73.size
    have HO69 := Lib.hid hx72
    have HS70 := Lib.hid hy73
    clear hx72 hy73
    have HO74 := Lib.hid (HO61.out.below HS70.out (by omega))
    clear HO61
    have HO75 := Lib.hid (HO62.out.below HS70.out (by omega))
    clear HO62
    have HO76 := Lib.hid (HO63.out.below HS70.out (by omega))
    clear HO63
    have HO77 := Lib.hid (HO64.out.below HS70.out (by omega))
    clear HO64
    have HO78 := Lib.hid (HO65.out.below HS70.out (by omega))
    clear HO65
    have HB79 : Hid (Below w.heap.size w w68) := Lib.hid (HB66.out.trans (HS70.out.mono (by omega)))
    clear HB66
    clear HS70
    go_wp2_with fail
    refine (L_eqBoolS _ _ _ _ _ _ HO76.out.rd HO69.out.rd (by omega) (by omega) HO76.out.small).mono ?_
    rintro e w80 ⟨rfl, hx81⟩
    have z82 : w68.heap.size ≤ w80.heap.size := hx81.size
    have HS83 := Lib.hid hx81
    clear hx81
    have HO84 := Lib.hid (HO74.out.below HS83.out (by omega))
    clear HO74
    have HO85 := Lib.hid (HO75.out.below HS83.out (by omega))
    clear HO75
    have HO86 := Lib.hid (HO76.out.below HS83.out (by omega))
    clear HO76
    have HO87 := Lib.hid (HO77.out.below HS83.out (by omega))
    clear HO77
    have HO88 := Lib.hid (HO78.out.below HS83.out (by omega))
    clear HO78
    have HO89 := Lib.hid (HO69.out.below HS83.out (by omega))
    clear HO69
    have HB90 : Hid (Below w.heap.size w w80) := Lib.hid (HB79.out.trans (HS83.out.mono (by omega)))
    clear HB79
    clear HS83
    clear HO89
    go_wp2_with fail
    refine (L_markBoolS _ _ _ _ _ _ HO86.out (by omega) (by omega) (by omega)).mono ?_
    rintro e w91 ⟨K92, rfl, hk93, h0_94, h1_95, hx96, hy97⟩
    have z98 : w80.heap.size ≤ w91.heap.size := hy97.size
    have HO99 := Lib.hid hx96
    have HS100 := Lib.hid hy97
    clear hx96 hy97
    have HO101 := Lib.hid (HO84.out.kept HS100.out (by omega) (by omega))
    clear HO84
    have HO102 := Lib.hid (HO85.out.kept HS100.out (by omega) (by omega))
    clear HO85
    have HO103 := Lib.hid (HO87.out.kept HS100.out (by omega) (by omega))
    clear HO87
    have HO104 := Lib.hid (HO88.out.kept HS100.out (by omega) (by omega))
    clear HO88
    have HB105 : Hid (Below w.heap.size w w91) := Lib.hid (HB90.out.trans ((HS100.out.to_below (by omega)).mono (by omega)))
    clear HB90
    clear HS100 HO86
    clear HO99
    go_wp2_with fail
    refine (L_eqBoolS _ _ _ _ _ _ HO103.out.rd HO101.out.rd (by omega) (by omega) HO103.out.small).mono ?_
    rintro e w106 ⟨rfl, hx107⟩
    have z108 : w91.heap.size ≤ w106.heap.size := hx107.size
    have HS109 := Lib.hid hx107
    clear hx107
    have HO110 := Lib.hid (HO101.out.below HS109.out (by omega))
    clear HO101
    have HO111 := Lib.hid (HO102.out.below HS109.out (by omega))
    clear HO102
    have HO112 := Lib.hid (HO103.out.below HS109.out (by omega))
    clear HO103
    have HO113 := Lib.hid (HO104.out.below HS109.out (by omega))
    clear HO104
    have HB114 : Hid (Below w.heap.size w w106) := Lib.hid (HB105.out.trans (HS109.out.mono (by omega)))
    clear HB105
    clear HS109
    go_wp2_with fail
    refine (L_eqBoolS _ _ _ _ _ _ HO113.out.rd HO111.out.rd (by omega) (by omega) HO113.out.small).mono ?_
    rintro e w115 ⟨rfl, hx116⟩
    have z117 : w106.heap.size ≤ w115.heap.size := hx116.size
    have HS118 := Lib.hid hx116
    clear hx116
    have HO119 := Lib.hid (HO110.out.below HS118.out (by omega))
    clear HO110
    have HO120 := Lib.hid (HO111.out.below HS118.out (by omega))
    clear HO111
    have HO121 := Lib.hid (HO112.out.below HS118.out (by omega))
    clear HO112
    have HO122 := Lib.hid (HO113.out.below HS118.out (by omega))
    clear HO113
    have HB123 : Hid (Below w.heap.size w w115) := Lib.hid (HB114.out.trans (HS118.out.mono (by omega)))
    clear HB114
    clear HS118
    have hs124 := HO121.out.small
    go_wp2_with fail
    refine (L_markBoolS _ _ _ _ _ _ HO121.out (by omega) (by omega) (by omega)).mono ?_
    rintro e w125 ⟨K126, rfl, hk127, h0_128, h1_129, hx130, hy131⟩
    have z132 : w115.heap.size ≤ w125.heap.size := hy131.size
    have HO133 := Lib.hid hx130
    have HS134 := Lib.hid hy131
    clear hx130 hy131
    have HO135 := Lib.hid (HO119.out.kept HS134.out (by omega) (by omega))
    clear HO119
    have HO136 := Lib.hid (HO120.out.kept HS134.out (by omega) (by omega))
    clear HO120
    have HO137 := Lib.hid (HO122.out.kept HS134.out (by omega) (by omega))
    clear HO122
    have HB138 : Hid (Below w.heap.size w w125) := Lib.hid (HB123.out.trans ((HS134.out.to_below (by omega)).mono (by omega)))
    clear HB123
    clear HS134 HO121
    have hs139 := HO137.out.small
    go_wp2_with fail
    refine (L_markBoolS _ _ _ _ _ _ HO137.out (by omega) (by omega) (by omega)).mono ?_
    rintro e w140 ⟨K141, rfl, hk142, h0_143, h1_144, hx145, hy146⟩
    have z147 : w125.heap.size ≤ w140.heap.size := hy146.size
    have HO148 := Lib.hid hx145
    have HS149 := Lib.hid hy146
    clear hx145 hy146
    have HO150 := Lib.hid (HO135.out.kept HS149.out (by omega) (by omega))
    clear HO135
    have HO151 := Lib.hid (HO136.out.kept HS149.out (by omega) (by omega))
    clear HO136
    have HO152 := Lib.hid (HO133.out.kept HS149.out (by omega) (by omega))
    clear HO133
    have HB153 : Hid (Below w.heap.size w w140) := Lib.hid (HB138.out.trans ((HS149.out.to_below (by omega)).mono (by omega)))
    clear HB138
    clear HS149 HO137
    go_wp2_with fail
    refine (L_heldBoolS _ _ (R_PairAsk_0 d_aSet aIndex) 1 _ _ HO152.out.rd (by omega) hs124 (Lib.hid rfl) (by omega) (by omega)).mono ?_
    rintro e w154 ⟨K155, rfl, hk156, h0_157, h1_158, hx159⟩
    have z160 : w140.heap.size ≤ w154.heap.size := hx159.size
    have HS161 := Lib.hid hx159
    clear hx159
    have HE162 : Hid (K155 = K126) := Lib.hid (by rw [hk156.out, hk127.out])
    have hne163 : (K155 != K126) = false := by rw [HE162.out]; simp
    have HO164 := Lib.hid (HO150.out.below HS161.out (by omega))
    clear HO150
    have HO165 := Lib.hid (HO151.out.below HS161.out (by omega))
    clear HO151
    have HO166 := Lib.hid (HO152.out.below HS161.out (by omega))
    clear HO152
    have HO167 := Lib.hid (HO148.out.below HS161.out (by omega))
    clear HO148
    have HB168 : Hid (Below w.heap.size w w154) := Lib.hid (HB153.out.trans (HS161.out.mono (by omega)))
    clear HB153
    clear HS161
    go_wp2_with fail
    refine (L_heldBoolS _ _ (R_PairAsk_1 d_aSet aIndex) K126 _ _ HO167.out.rd (by omega) hs139 HE162 (by omega) (by omega)).mono ?_
    rintro e w169 ⟨K170, rfl, hk171, h0_172, h1_173, hx174⟩
    have z175 : w154.heap.size ≤ w169.heap.size := hx174.size
    have HS176 := Lib.hid hx174
    clear hx174
    have HE177 : Hid (K170 = K141) := Lib.hid (by rw [hk171.out, hk142.out])
    have hne178 : (K170 != K141) = false := by rw [HE177.out]; simp
    have HO179 := Lib.hid (HO164.out.below HS176.out (by omega))
    clear HO164
    have HO180 := Lib.hid (HO165.out.below HS176.out (by omega))
    clear HO165
    have HO181 := Lib.hid (HO166.out.below HS176.out (by omega))
    clear HO166
    have HO182 := Lib.hid (HO167.out.below HS176.out (by omega))
    clear HO167
    have HB183 : Hid (Below w.heap.size w w169) := Lib.hid (HB168.out.trans (HS176.out.mono (by omega)))
    clear HB168
    clear HS176
    go_wp2_with fail
    refine (L_toBoolS _ _ _ _ (RdBoolS.below Ha_aSet.out HB183.out) HB183.out.size hs_aSet).mono ?_
    rintro e w185 ⟨v184, rfl, hx189, hy190⟩
    have z188 : w169.heap.size ≤ w185.heap.size := hy190.size
    have HO186 := Lib.hid hx189
    have HS187 := Lib.hid hy190
    clear hx189 hy190
    have HO191 := Lib.hid (HO179.out.below HS187.out (by omega))
    clear HO179
    have HO192 := Lib.hid (HO180.out.below HS187.out (by omega))
    clear HO180
    have HO193 := Lib.hid (HO181.out.below HS187.out (by omega))
    clear HO181
    have HO194 := Lib.hid (HO182.out.below HS187.out (by omega))
    clear HO182
    have HB195 : Hid (Below w.heap.size w w185) := Lib.hid (HB183.out.trans (HS187.out.mono (by omega)))
    clear HB183
    clear HS187
    go_wp2_with fail
    refine (X_i_PairAsk _ d_aSet aIndex _ (HO186.out.rd.more (by omega)) hs_aSet).mono ?_
    rintro e w196 ⟨h0_w196, h1_w196, mid200, rfl, zm201, zm202, hx197, hx198, hy199⟩
    have z203 : w185.heap.size ≤ w196.heap.size := hy199.size
    have HO204 := Lib.hid hx197
    clear hx197
    have HO205 := Lib.hid hx198
    clear hx198
    have HS206 := Lib.hid hy199
    clear hy199
    have HO207 := Lib.hid (HO191.out.below HS206.out (by omega))
    clear HO191
    have HO208 := Lib.hid (HO192.out.below HS206.out (by omega))
    clear HO192
    have HO209 := Lib.hid (HO193.out.below HS206.out (by omega))
    clear HO193
    have HO210 := Lib.hid (HO194.out.below HS206.out (by omega))
    clear HO194
    have HO211 := Lib.hid (HO186.out.below HS206.out (by omega))
    clear HO186
    have HB212 : Hid (Below w.heap.size w w196) := Lib.hid (HB195.out.trans (HS206.out.mono (by omega)))
    clear HB195
    clear HS206
    clear HO211
    go_wp2_with fail
    refine (L_eqBoolS _ _ _ _ _ _ HO204.out.rd HO207.out.rd (by omega) (by omega) HO204.out.small).mono ?_
    rintro e w213 ⟨rfl, hx214⟩
    have z215 : w196.heap.size ≤ w213.heap.size := hx214.size
    have HS216 := Lib.hid hx214
    clear hx214
    have HO217 := Lib.hid (HO207.out.below HS216.out (by omega))
    clear HO207
    have HO218 := Lib.hid (HO208.out.below HS216.out (by omega))
    clear HO208
    have HO219 := Lib.hid (HO209.out.below HS216.out (by omega))
    clear HO209
    have HO220 := Lib.hid (HO210.out.below HS216.out (by omega))
    clear HO210
    have HO221 := Lib.hid (HO204.out.below HS216.out (by omega))
    clear HO204
    have HO222 := Lib.hid (HO205.out.below HS216.out (by omega))
    clear HO205
    have HB223 : Hid (Below w.heap.size w w213) := Lib.hid (HB212.out.trans (HS216.out.mono (by omega)))
    clear HB212
    clear HS216
    go_wp2_with fail
    refine (L_eqBoolS _ _ _ _ _ _ HO222.out.rd HO218.out.rd (by omega) (by omega) HO222.out.small).mono ?_
    rintro e w224 ⟨rfl, hx225⟩
    have z226 : w213.heap.size ≤ w224.heap.size := hx225.size
    have HS227 := Lib.hid hx225
    clear hx225
    have HO228 := Lib.hid (HO217.out.below HS227.out (by omega))
    clear HO217
    have HO229 := Lib.hid (HO218.out.below HS227.out (by omega))
    clear HO218
    have HO230 := Lib.hid (HO219.out.below HS227.out (by omega))
    clear HO219
    have HO231 := Lib.hid (HO220.out.below HS227.out (by omega))
    clear HO220
    have HO232 := Lib.hid (HO221.out.below HS227.out (by omega))
    clear HO221
    have HO233 := Lib.hid (HO222.out.below HS227.out (by omega))
    clear HO222
    have HB234 : Hid (Below w.heap.size w w224) := Lib.hid (HB223.out.trans (HS227.out.mono (by omega)))
    clear HB223
    clear HS227
    go_wp2_with fail
    refine (L_heldBoolS _ _ (R_PairAsk_0 d_aSet aIndex) 1 _ _ HO230.out.rd (by omega) hs124 (Lib.hid rfl) (by omega) (by omega)).mono ?_
    rintro e w235 ⟨K236, rfl, hk237, h0_238, h1_239, hx240⟩
    have z241 : w224.heap.size ≤ w235.heap.size := hx240.size
    have HS242 := Lib.hid hx240
    clear hx240
    have HE243 : Hid (K236 = K126) := Lib.hid (by rw [hk237.out, hk127.out])
    have hne244 : (K236 != K126) = false := by rw [HE243.out]; simp
    have HO245 := Lib.hid (HO228.out.below HS242.out (by omega))
    clear HO228
    have HO246 := Lib.hid (HO229.out.below HS242.out (by omega))
    clear HO229
    have HO247 := Lib.hid (HO230.out.below HS242.out (by omega))
    clear HO230
    have HO248 := Lib.hid (HO231.out.below HS242.out (by omega))
    clear HO231
    have HO249 := Lib.hid (HO232.out.below HS242.out (by omega))
    clear HO232
    have HO250 := Lib.hid (HO233.out.below HS242.out (by omega))
    clear HO233
    have HB251 : Hid (Below w.heap.size w w235) := Lib.hid (HB234.out.trans (HS242.out.mono (by omega)))
    clear HB234
    clear HS242
    go_wp2_with fail
    refine (L_heldBoolS _ _ (R_PairAsk_1 d_aSet aIndex) K126 _ _ HO248.out.rd (by omega) hs139 HE243 (by omega) (by omega)).mono ?_
    rintro e w252 ⟨K253, rfl, hk254, h0_255, h1_256, hx257⟩
    have z258 : w235.heap.size ≤ w252.heap.size := hx257.size
    have HS259 := Lib.hid hx257
    clear hx257
    have HE260 : Hid (K253 = K141) := Lib.hid (by rw [hk254.out, hk142.out])
    have hne261 : (K253 != K141) = false := by rw [HE260.out]; simp
    have HO262 := Lib.hid (HO245.out.below HS259.out (by omega))
    clear HO245
    have HO263 := Lib.hid (HO246.out.below HS259.out (by omega))
    clear HO246
    have HO264 := Lib.hid (HO247.out.below HS259.out (by omega))
    clear HO247
    have HO265 := Lib.hid (HO248.out.below HS259.out (by omega))
    clear HO248
    have HO266 := Lib.hid (HO249.out.below HS259.out (by omega))
    clear HO249
    have HO267 := Lib.hid (HO250.out.below HS259.out (by omega))
    clear HO250
    have HB268 : Hid (Below w.heap.size w w252) := Lib.hid (HB251.out.trans (HS259.out.mono (by omega)))
    clear HB251
    clear HS259
    go_wp2
    go_ret
    exact ⟨rfl, HB268.out⟩
  · have hn_aSet : ¬ n_aSet ≤ 1048576 := by have := h_aSet.blen; unfold szBoolS at hs_aSet; omega
    go_enter Try.func4, Try.ntmps4
    go_wp2
    go_ret
    exact ⟨rfl, by first | exact Below.refl _ _ | exact (Below.refl _ _).alloc (Nat.le_refl _) _ | exact ((Below.refl _ _).alloc (Nat.le_refl _) _).alloc (by simp) _⟩

set_option maxRecDepth 100000 in
theorem lifted (os : Os) (started : os.Started) (H : Type) (enc : TypeId × Value → H) :
    ReturnsInHanded {} Try.checked os 4 .any (Rows.fnExactPairAskSpec.pre6 enc Try.prog Try.f4 Rows.fnExactPairAskRow.domain false) (Rows.fnExactPairAskSpec.post enc Try.prog Try.f4 false true false false) := by
  refine returnsInHanded_of_change (C := Try.checked) own started (by kernel_rfl) Try.func4
    (ChangeSpec.witness6 (enc := enc) (C := Try.checked) false ⟨#[], #[.slice none 0 0, .int .i64 0], []⟩ 8 (by kernel_rfl) (by kernel_rfl) (by kernel_rfl) (by kernel_rfl)) ?_
  intro W base args ds gs before hval0 hW hcnd _
  have hval : ∀ (j : Nat) t v, Try.f4.params[j]? = some t → args[j]? = some v → Value.okWide Try.prog W .any base t v := hval0
  have hW' := hW
  obtain ⟨p, q, hA0, hV, rfl, hfz, hnd⟩ := hW
  have hA : DataW.TrodAll enc Try.prog W 0 (fun _ => true) true Try.f4.params.toList args.toList ds p := hA0
  rw [Try.params4] at hA hval
  obtain ⟨v0, vs0, dd0, ds0, p0, q0, hargs, rfl, rfl, h0, r0⟩ := trodAll_cons hA
  obtain ⟨v1, vs1, dd1, ds1, p1, q1, rfl, rfl, rfl, h1, r1⟩ := trodAll_cons r0
  obtain ⟨rfl, rfl, rfl⟩ := trodAll_nil r1
  obtain rfl : args = #[v0, v1] := by cases args; simp_all
  obtain ⟨rfl, rfl⟩ := trodVars_none hV
  obtain ⟨A_aSet, n_aSet, c_aSet, d_aSet, rfl, hm_aSet, h_aSet⟩ := open_boolS Try.underlying26 Try.underlying4 (by kernel_rfl) (hval 0 26 v0 rfl rfl) h0
  obtain ⟨aIndex, rfl, rfl, rfl, w_aIndex⟩ := open_int Try.underlying3 (hval 1 3 v1 rfl rfl) h1
  refine (walk A_aSet n_aSet c_aSet d_aSet aIndex W hm_aSet h_aSet w_aIndex).mono fun e W' ⟨he, hb⟩ => ?_
  subst he
  exact ⟨_, rfl, post_law rfl rfl Try.underlying4 (by kernel_rfl) (by kernel_rfl) hW' rfl hb⟩

theorem closed : joinedFacts Try.prog 4 Try.f4 Rows.fnExactPairAskSpec Rows.fnExactPairAskRow = true := joined_of (by kernel_rfl)
theorem over : Rows.fnExactPairAskRow.holds Try.pinned (OpenSpec.ofChange Rows.fnExactPairAskSpec) :=
  OpenClaim.holds_of_wide 4 Try.f4 rfl rfl rfl rfl rfl rfl rfl ⟨rfl, rfl, rfl, rfl, rfl⟩ rfl rfl rfl rfl rfl (by kernel_rfl) Try.func4 closed
    (of_decide_eq_true (by kernel_rfl)) (by unfold Func.isWrapper; first | (rw [if_pos (by decide +kernel)]; kernel_rfl) | (rw [if_neg (by decide +kernel)]; exact ⟨rfl, rfl⟩))
    (fun os started H enc _ => lifted os started H enc)
/-- the statement -/
theorem proved : Rows.FnExactPairAskSaid :=
  over
end Go.Proofs.Ytbabkaofhhaneaa.fnExactPairAsk
