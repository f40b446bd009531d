/- FnExactEitherTape answers true at every input: at each argument the function and its model answer alike, no argument is written, and the answer owns its memory. No condition. -/
import Derived.Test.YtalokhilodlhfaaRows
import Derived.Test.YtalokhilodlhfaaLaw
import Derived.Test.YtalokhilodlhfaaDoor
import Derived.Test.YtalokhilodlhfaaWalk15f
import Derived.Test.YtalokhilodlhfaaOpenP
import Derived.Test.YtalokhilodlhfaaFaceI
namespace Go.Proofs.Ytalokhilodlhfaa.fnExactEitherTape
open Go.ChangeShapes Go.WideShapes Go.ChangeAt Go.RowKit
theorem own : ownKnob Try.prog.godebug = none := by kernel_rfl
set_option maxRecDepth 100000 in
set_option maxHeartbeats 4000000 in
theorem walk (A_aKeys : Option Addr) (n_aKeys c_aKeys : Nat) (d_aKeys : List Int) (A_aList : Option Addr) (n_aList c_aList : Nat) (d_aList : List (Int × Int × Int)) (aIndex : Int) (aSecret : Int) (w : World) (hm_aKeys : n_aKeys ≤ 9223372036854775807) (h_aKeys : Rd w w.heap.size 1 A_aKeys n_aKeys (cI d_aKeys)) (hm_aList : n_aList ≤ 9223372036854775807) (h_aList : Rd w w.heap.size 3 A_aList n_aList (cProof d_aList)) (_w_aIndex : (Lit.int .i64 aIndex).wf = true) (_w_aSecret : (Lit.int .i64 aSecret).wf = true) :
    Calls Try.prog 6 #[.slice A_aKeys n_aKeys c_aKeys, .slice A_aList n_aList c_aList, .int .i64 aIndex, .int .i64 aSecret] w fun e w' => e = .returned (.bool true) ∧ Below w.heap.size w w' := by
  by_cases hs_aKeys : szIntS d_aKeys ≤ 1048576
  · have hn_aKeys : n_aKeys ≤ 1048576 := by have := h_aKeys.len; unfold szIntS at hs_aKeys; omega
    have Ha_aKeys : Hid (RdIntS w w.heap.size (.slice A_aKeys n_aKeys c_aKeys) d_aKeys) := Lib.hid (⟨A_aKeys, n_aKeys, c_aKeys, rfl, hm_aKeys, h_aKeys⟩)
    have Ha_aList : Hid (RdProofS w w.heap.size (.slice A_aList n_aList c_aList) d_aList) := Lib.hid (⟨A_aList, n_aList, c_aList, rfl, hm_aList, h_aList⟩)
    clear h_aKeys h_aList
    go_enter Try.func6, Try.ntmps6
    go_wp2_with fail
    rcases Int.lt_or_le 1048576 (szProofS d_aList : Nat) with hl1 | hl1
    · refine (L_szProofS_no _ _ _ _ _ Ha_aList.out (by omega) (by omega) hl1).mono ?_
      rintro e w' ⟨rfl, hb⟩
      have hb2 := Lib.hid hb
      clear hb
      go_wp2
      go_ret
      exact ⟨rfl, hb2.out⟩
    refine (L_szProofS_ok _ _ _ _ _ Ha_aList.out (by omega) (by omega) hl1).mono ?_
    rintro e w2 ⟨L3, rfl, hx6, h0_4, h1_5, hy7⟩
    have hs_aList : szProofS d_aList ≤ 1048576 := by omega
    have z8 : w.heap.size ≤ w2.heap.size := hy7.size
    have HS9 := Lib.hid hy7
    clear hy7
    have HB10 : Hid (Below w.heap.size w w2) := Lib.hid (HS9.out.mono (by omega))
    clear HS9
    go_wp2_with fail
    refine (L_toIntS _ _ _ _ (RdIntS.below Ha_aKeys.out HB10.out) HB10.out.size hs_aKeys).mono ?_
    rintro e w12 ⟨v11, rfl, hx16, hy17⟩
    have z15 : w2.heap.size ≤ w12.heap.size := hy17.size
    have HO13 := Lib.hid hx16
    have HS14 := Lib.hid hy17
    clear hx16 hy17
    have HB18 : Hid (Below w.heap.size w w12) := Lib.hid (HB10.out.trans (HS14.out.mono (by omega)))
    clear HB10
    clear HS14
    go_wp2_with fail
    refine (L_toProofS _ _ _ _ (RdProofS.below Ha_aList.out HB18.out) HB18.out.size hs_aList).mono ?_
    rintro e w20 ⟨v19, rfl, hx24, hy25⟩
    have z23 : w12.heap.size ≤ w20.heap.size := hy25.size
    have HO21 := Lib.hid hx24
    have HS22 := Lib.hid hy25
    clear hx24 hy25
    have HO26 := Lib.hid (HO13.out.below HS22.out (by omega))
    clear HO13
    have HB27 : Hid (Below w.heap.size w w20) := Lib.hid (HB18.out.trans (HS22.out.mono (by omega)))
    clear HB18
    clear HS22
    go_wp2_with fail
    refine (X_s_EitherTape _ _ d_aKeys d_aList aIndex aSecret _ (HO26.out.rd.more (by omega)) (HO21.out.rd.more (by omega)) hs_aKeys hs_aList).mono ?_
    rintro e w28 ⟨w0_w28, rfl, hx29, hy30⟩
    have z31 : w20.heap.size ≤ w28.heap.size := hy30.size
    have HO32 := Lib.hid hx29
    clear hx29
    have HS33 := Lib.hid hy30
    clear hy30
    have HO34 := Lib.hid (HO26.out.below HS33.out (by omega))
    clear HO26
    have HO35 := Lib.hid (HO21.out.below HS33.out (by omega))
    clear HO21
    have HB36 : Hid (Below w.heap.size w w28) := Lib.hid (HB27.out.trans (HS33.out.mono (by omega)))
    clear HB27
    clear HS33
    clear HO34
    clear HO35
    go_wp2_with fail
    refine (L_toIntS _ _ _ _ (RdIntS.below Ha_aKeys.out HB36.out) HB36.out.size hs_aKeys).mono ?_
    rintro e w38 ⟨v37, rfl, hx42, hy43⟩
    have z41 : w28.heap.size ≤ w38.heap.size := hy43.size
    have HO39 := Lib.hid hx42
    have HS40 := Lib.hid hy43
    clear hx42 hy43
    have HO44 := Lib.hid (HO32.out.below HS40.out (by omega))
    clear HO32
    have HB45 : Hid (Below w.heap.size w w38) := Lib.hid (HB36.out.trans (HS40.out.mono (by omega)))
    clear HB36
    clear HS40
    go_wp2_with fail
    refine (L_toProofS _ _ _ _ (RdProofS.below Ha_aList.out HB45.out) HB45.out.size hs_aList).mono ?_
    rintro e w47 ⟨v46, rfl, hx51, hy52⟩
    have z50 : w38.heap.size ≤ w47.heap.size := hy52.size
    have HO48 := Lib.hid hx51
    have HS49 := Lib.hid hy52
    clear hx51 hy52
    have HO53 := Lib.hid (HO44.out.below HS49.out (by omega))
    clear HO44
    have HO54 := Lib.hid (HO39.out.below HS49.out (by omega))
    clear HO39
    have HB55 : Hid (Below w.heap.size w w47) := Lib.hid (HB45.out.trans (HS49.out.mono (by omega)))
    clear HB45
    clear HS49
    go_wp2_with fail
    refine (X_i_EitherTape _ _ d_aKeys d_aList aIndex aSecret _ (HO54.out.rd.more (by omega)) (HO48.out.rd.more (by omega)) hs_aKeys hs_aList).mono ?_
    rintro e w56 ⟨g0_w56, rfl, hx57, hy58⟩
    have z59 : w47.heap.size ≤ w56.heap.size := hy58.size
    have HO60 := Lib.hid hx57
    clear hx57
    have HS61 := Lib.hid hy58
    clear hy58
    have HO62 := Lib.hid (HO53.out.below HS61.out (by omega))
    clear HO53
    have HO63 := Lib.hid (HO54.out.below HS61.out (by omega))
    clear HO54
    have HO64 := Lib.hid (HO48.out.below HS61.out (by omega))
    clear HO48
    have HB65 : Hid (Below w.heap.size w w56) := Lib.hid (HB55.out.trans (HS61.out.mono (by omega)))
    clear HB55
    clear HS61
    go_wp2_with fail
    refine (L_eqIntS _ _ _ _ _ _ HO60.out.rd HO62.out.rd (by omega) (by omega) HO60.out.small).mono ?_
    rintro e w66 ⟨rfl, hx67⟩
    have z68 : w56.heap.size ≤ w66.heap.size := hx67.size
    have HS69 := Lib.hid hx67
    clear hx67
    have HO70 := Lib.hid (HO62.out.below HS69.out (by omega))
    clear HO62
    have HO71 := Lib.hid (HO63.out.below HS69.out (by omega))
    clear HO63
    have HO72 := Lib.hid (HO64.out.below HS69.out (by omega))
    clear HO64
    have HO73 := Lib.hid (HO60.out.below HS69.out (by omega))
    clear HO60
    have HB74 : Hid (Below w.heap.size w w66) := Lib.hid (HB65.out.trans (HS69.out.mono (by omega)))
    clear HB65
    clear HS69
    go_wp2_with fail
    refine (L_toIntS _ _ _ _ (RdIntS.below Ha_aKeys.out HB74.out) HB74.out.size hs_aKeys).mono ?_
    rintro e w76 ⟨v75, rfl, hx80, hy81⟩
    have z79 : w66.heap.size ≤ w76.heap.size := hy81.size
    have HO77 := Lib.hid hx80
    have HS78 := Lib.hid hy81
    clear hx80 hy81
    have HO82 := Lib.hid (HO70.out.below HS78.out (by omega))
    clear HO70
    have HO83 := Lib.hid (HO71.out.below HS78.out (by omega))
    clear HO71
    have HO84 := Lib.hid (HO72.out.below HS78.out (by omega))
    clear HO72
    have HO85 := Lib.hid (HO73.out.below HS78.out (by omega))
    clear HO73
    have HB86 : Hid (Below w.heap.size w w76) := Lib.hid (HB74.out.trans (HS78.out.mono (by omega)))
    clear HB74
    clear HS78
    go_wp2_with fail
    refine (L_eqIntS _ _ _ _ _ _ HO83.out.rd HO77.out.rd (by omega) (by omega) HO83.out.small).mono ?_
    rintro e w87 ⟨rfl, hx88⟩
    have z89 : w76.heap.size ≤ w87.heap.size := hx88.size
    have HS90 := Lib.hid hx88
    clear hx88
    have HO91 := Lib.hid (HO82.out.below HS90.out (by omega))
    clear HO82
    have HO92 := Lib.hid (HO83.out.below HS90.out (by omega))
    clear HO83
    have HO93 := Lib.hid (HO84.out.below HS90.out (by omega))
    clear HO84
    have HO94 := Lib.hid (HO85.out.below HS90.out (by omega))
    clear HO85
    have HO95 := Lib.hid (HO77.out.below HS90.out (by omega))
    clear HO77
    have HB96 : Hid (Below w.heap.size w w87) := Lib.hid (HB86.out.trans (HS90.out.mono (by omega)))
    clear HB86
    clear HS90
    clear HO95
    go_wp2_with fail
    refine (L_toProofS _ _ _ _ (RdProofS.below Ha_aList.out HB96.out) HB96.out.size hs_aList).mono ?_
    rintro e w98 ⟨v97, rfl, hx102, hy103⟩
    have z101 : w87.heap.size ≤ w98.heap.size := hy103.size
    have HO99 := Lib.hid hx102
    have HS100 := Lib.hid hy103
    clear hx102 hy103
    have HO104 := Lib.hid (HO91.out.below HS100.out (by omega))
    clear HO91
    have HO105 := Lib.hid (HO92.out.below HS100.out (by omega))
    clear HO92
    have HO106 := Lib.hid (HO93.out.below HS100.out (by omega))
    clear HO93
    have HO107 := Lib.hid (HO94.out.below HS100.out (by omega))
    clear HO94
    have HB108 : Hid (Below w.heap.size w w98) := Lib.hid (HB96.out.trans (HS100.out.mono (by omega)))
    clear HB96
    clear HS100
    go_wp2_with fail
    refine (L_eqProofS _ _ _ _ _ _ HO106.out.rd HO99.out.rd (by omega) (by omega) HO106.out.small).mono ?_
    rintro e w109 ⟨rfl, hx110⟩
    have z111 : w98.heap.size ≤ w109.heap.size := hx110.size
    have HS112 := Lib.hid hx110
    clear hx110
    have HO113 := Lib.hid (HO104.out.below HS112.out (by omega))
    clear HO104
    have HO114 := Lib.hid (HO105.out.below HS112.out (by omega))
    clear HO105
    have HO115 := Lib.hid (HO106.out.below HS112.out (by omega))
    clear HO106
    have HO116 := Lib.hid (HO107.out.below HS112.out (by omega))
    clear HO107
    have HO117 := Lib.hid (HO99.out.below HS112.out (by omega))
    clear HO99
    have HB118 : Hid (Below w.heap.size w w109) := Lib.hid (HB108.out.trans (HS112.out.mono (by omega)))
    clear HB108
    clear HS112
    clear HO117
    go_wp2_with fail
    refine (L_markIntS _ _ _ _ _ _ HO114.out (by omega) (by omega) (by omega)).mono ?_
    rintro e w119 ⟨K120, rfl, hk121, h0_122, h1_123, hx124, hy125⟩
    have z126 : w109.heap.size ≤ w119.heap.size := hy125.size
    have HO127 := Lib.hid hx124
    have HS128 := Lib.hid hy125
    clear hx124 hy125
    have HO129 := Lib.hid (HO113.out.kept HS128.out (by omega) (by omega))
    clear HO113
    have HO130 := Lib.hid (HO115.out.kept HS128.out (by omega) (by omega))
    clear HO115
    have HO131 := Lib.hid (HO116.out.kept HS128.out (by omega) (by omega))
    clear HO116
    have HB132 : Hid (Below w.heap.size w w119) := Lib.hid (HB118.out.trans ((HS128.out.to_below (by omega)).mono (by omega)))
    clear HB118
    clear HS128 HO114
    go_wp2_with fail
    refine (L_markProofS _ _ _ _ _ _ HO130.out (by omega) (by omega) (by omega)).mono ?_
    rintro e w133 ⟨K134, rfl, hk135, h0_136, h1_137, hx138, hy139⟩
    have z140 : w119.heap.size ≤ w133.heap.size := hy139.size
    have HO141 := Lib.hid hx138
    have HS142 := Lib.hid hy139
    clear hx138 hy139
    have HO143 := Lib.hid (HO129.out.kept HS142.out (by omega) (by omega))
    clear HO129
    have HO144 := Lib.hid (HO127.out.kept HS142.out (by omega) (by omega))
    clear HO127
    have HO145 := Lib.hid (HO131.out.kept HS142.out (by omega) (by omega))
    clear HO131
    have HB146 : Hid (Below w.heap.size w w133) := Lib.hid (HB132.out.trans ((HS142.out.to_below (by omega)).mono (by omega)))
    clear HB132
    clear HS142 HO130
    clear HO144
    clear HO141
    go_wp2_with fail
    refine (L_eqIntS _ _ _ _ _ _ HO145.out.rd HO143.out.rd (by omega) (by omega) HO145.out.small).mono ?_
    rintro e w147 ⟨rfl, hx148⟩
    have z149 : w133.heap.size ≤ w147.heap.size := hx148.size
    have HS150 := Lib.hid hx148
    clear hx148
    have HO151 := Lib.hid (HO143.out.below HS150.out (by omega))
    clear HO143
    have HO152 := Lib.hid (HO145.out.below HS150.out (by omega))
    clear HO145
    have HB153 : Hid (Below w.heap.size w w147) := Lib.hid (HB146.out.trans (HS150.out.mono (by omega)))
    clear HB146
    clear HS150
    have hs154 := HO152.out.small
    go_wp2_with fail
    refine (L_markIntS _ _ _ _ _ _ HO152.out (by omega) (by omega) (by omega)).mono ?_
    rintro e w155 ⟨K156, rfl, hk157, h0_158, h1_159, hx160, hy161⟩
    have z162 : w147.heap.size ≤ w155.heap.size := hy161.size
    have HO163 := Lib.hid hx160
    have HS164 := Lib.hid hy161
    clear hx160 hy161
    have HO165 := Lib.hid (HO151.out.kept HS164.out (by omega) (by omega))
    clear HO151
    have HB166 : Hid (Below w.heap.size w w155) := Lib.hid (HB153.out.trans ((HS164.out.to_below (by omega)).mono (by omega)))
    clear HB153
    clear HS164 HO152
    go_wp2_with fail
    refine (L_heldIntS _ _ (R_EitherTape_0 d_aKeys d_aList aIndex aSecret) 1 _ _ HO163.out.rd (by omega) hs154 (Lib.hid rfl) (by omega) (by omega)).mono ?_
    rintro e w167 ⟨K168, rfl, hk169, h0_170, h1_171, hx172⟩
    have z173 : w155.heap.size ≤ w167.heap.size := hx172.size
    have HS174 := Lib.hid hx172
    clear hx172
    have HE175 : Hid (K168 = K156) := Lib.hid (by rw [hk169.out, hk157.out])
    have hne176 : (K168 != K156) = false := by rw [HE175.out]; simp
    have HO177 := Lib.hid (HO165.out.below HS174.out (by omega))
    clear HO165
    have HO178 := Lib.hid (HO163.out.below HS174.out (by omega))
    clear HO163
    have HB179 : Hid (Below w.heap.size w w167) := Lib.hid (HB166.out.trans (HS174.out.mono (by omega)))
    clear HB166
    clear HS174
    go_wp2_with fail
    refine (L_toIntS _ _ _ _ (RdIntS.below Ha_aKeys.out HB179.out) HB179.out.size hs_aKeys).mono ?_
    rintro e w181 ⟨v180, rfl, hx185, hy186⟩
    have z184 : w167.heap.size ≤ w181.heap.size := hy186.size
    have HO182 := Lib.hid hx185
    have HS183 := Lib.hid hy186
    clear hx185 hy186
    have HO187 := Lib.hid (HO177.out.below HS183.out (by omega))
    clear HO177
    have HO188 := Lib.hid (HO178.out.below HS183.out (by omega))
    clear HO178
    have HB189 : Hid (Below w.heap.size w w181) := Lib.hid (HB179.out.trans (HS183.out.mono (by omega)))
    clear HB179
    clear HS183
    go_wp2_with fail
    refine (L_toProofS _ _ _ _ (RdProofS.below Ha_aList.out HB189.out) HB189.out.size hs_aList).mono ?_
    rintro e w191 ⟨v190, rfl, hx195, hy196⟩
    have z194 : w181.heap.size ≤ w191.heap.size := hy196.size
    have HO192 := Lib.hid hx195
    have HS193 := Lib.hid hy196
    clear hx195 hy196
    have HO197 := Lib.hid (HO187.out.below HS193.out (by omega))
    clear HO187
    have HO198 := Lib.hid (HO188.out.below HS193.out (by omega))
    clear HO188
    have HO199 := Lib.hid (HO182.out.below HS193.out (by omega))
    clear HO182
    have HB200 : Hid (Below w.heap.size w w191) := Lib.hid (HB189.out.trans (HS193.out.mono (by omega)))
    clear HB189
    clear HS193
    go_wp2_with fail
    refine (X_i_EitherTape _ _ d_aKeys d_aList aIndex aSecret _ (HO199.out.rd.more (by omega)) (HO192.out.rd.more (by omega)) hs_aKeys hs_aList).mono ?_
    rintro e w201 ⟨h0_w201, rfl, hx202, hy203⟩
    have z204 : w191.heap.size ≤ w201.heap.size := hy203.size
    have HO205 := Lib.hid hx202
    clear hx202
    have HS206 := Lib.hid hy203
    clear hy203
    have HO207 := Lib.hid (HO197.out.below HS206.out (by omega))
    clear HO197
    have HO208 := Lib.hid (HO198.out.below HS206.out (by omega))
    clear HO198
    have HO209 := Lib.hid (HO199.out.below HS206.out (by omega))
    clear HO199
    have HO210 := Lib.hid (HO192.out.below HS206.out (by omega))
    clear HO192
    have HB211 : Hid (Below w.heap.size w w201) := Lib.hid (HB200.out.trans (HS206.out.mono (by omega)))
    clear HB200
    clear HS206
    clear HO209
    clear HO210
    go_wp2_with fail
    refine (L_eqIntS _ _ _ _ _ _ HO205.out.rd HO207.out.rd (by omega) (by omega) HO205.out.small).mono ?_
    rintro e w212 ⟨rfl, hx213⟩
    have z214 : w201.heap.size ≤ w212.heap.size := hx213.size
    have HS215 := Lib.hid hx213
    clear hx213
    have HO216 := Lib.hid (HO207.out.below HS215.out (by omega))
    clear HO207
    have HO217 := Lib.hid (HO208.out.below HS215.out (by omega))
    clear HO208
    have HO218 := Lib.hid (HO205.out.below HS215.out (by omega))
    clear HO205
    have HB219 : Hid (Below w.heap.size w w212) := Lib.hid (HB211.out.trans (HS215.out.mono (by omega)))
    clear HB211
    clear HS215
    go_wp2_with fail
    refine (L_heldIntS _ _ (R_EitherTape_0 d_aKeys d_aList aIndex aSecret) 1 _ _ HO217.out.rd (by omega) hs154 (Lib.hid rfl) (by omega) (by omega)).mono ?_
    rintro e w220 ⟨K221, rfl, hk222, h0_223, h1_224, hx225⟩
    have z226 : w212.heap.size ≤ w220.heap.size := hx225.size
    have HS227 := Lib.hid hx225
    clear hx225
    have HE228 : Hid (K221 = K156) := Lib.hid (by rw [hk222.out, hk157.out])
    have hne229 : (K221 != K156) = false := by rw [HE228.out]; simp
    have HO230 := Lib.hid (HO216.out.below HS227.out (by omega))
    clear HO216
    have HO231 := Lib.hid (HO217.out.below HS227.out (by omega))
    clear HO217
    have HO232 := Lib.hid (HO218.out.below HS227.out (by omega))
    clear HO218
    have HB233 : Hid (Below w.heap.size w w220) := Lib.hid (HB219.out.trans (HS227.out.mono (by omega)))
    clear HB219
    clear HS227
    go_wp2
    go_ret
    exact ⟨rfl, HB233.out⟩
  · have hn_aKeys : ¬ n_aKeys ≤ 1048576 := by have := h_aKeys.len; unfold szIntS at hs_aKeys; omega
    go_enter Try.func6, Try.ntmps6
    go_wp2
    go_ret
    exact ⟨rfl, by first | exact Below.refl _ _ | exact (Below.refl _ _).alloc (Nat.le_refl _) _ | exact ((Below.refl _ _).alloc (Nat.le_refl _) _).alloc (by simp) _⟩

set_option maxRecDepth 100000 in
theorem lifted (os : Os) (started : os.Started) (H : Type) (enc : TypeId × Value → H) :
    ReturnsInHanded {} Try.checked os 6 .any (Rows.fnExactEitherTapeSpec.pre6 enc Try.prog Try.f6 Rows.fnExactEitherTapeRow.domain false) (Rows.fnExactEitherTapeSpec.post enc Try.prog Try.f6 false true false false) := by
  refine returnsInHanded_of_change (C := Try.checked) own started (by kernel_rfl) Try.func6
    (ChangeSpec.witness6 (enc := enc) (C := Try.checked) false ⟨#[], #[.slice none 0 0, .slice none 0 0, .int .i64 0, .int .i64 0], []⟩ 8 (by kernel_rfl) (by kernel_rfl) (by kernel_rfl) (by kernel_rfl)) ?_
  intro W base args ds gs before hval0 hW hcnd _
  have hval : ∀ (j : Nat) t v, Try.f6.params[j]? = some t → args[j]? = some v → Value.okWide Try.prog W .any base t v := hval0
  have hW' := hW
  obtain ⟨p, q, hA0, hV, rfl, hfz, hnd⟩ := hW
  have hA : DataW.TrodAll enc Try.prog W 0 (fun _ => true) true Try.f6.params.toList args.toList ds p := hA0
  rw [Try.params6] at hA hval
  obtain ⟨v0, vs0, dd0, ds0, p0, q0, hargs, rfl, rfl, h0, r0⟩ := trodAll_cons hA
  obtain ⟨v1, vs1, dd1, ds1, p1, q1, rfl, rfl, rfl, h1, r1⟩ := trodAll_cons r0
  obtain ⟨v2, vs2, dd2, ds2, p2, q2, rfl, rfl, rfl, h2, r2⟩ := trodAll_cons r1
  obtain ⟨v3, vs3, dd3, ds3, p3, q3, rfl, rfl, rfl, h3, r3⟩ := trodAll_cons r2
  obtain ⟨rfl, rfl, rfl⟩ := trodAll_nil r3
  obtain rfl : args = #[v0, v1, v2, v3] := by cases args; simp_all
  obtain ⟨rfl, rfl⟩ := trodVars_none hV
  obtain ⟨A_aKeys, n_aKeys, c_aKeys, d_aKeys, rfl, hm_aKeys, h_aKeys⟩ := open_intS Try.underlying22 Try.underlying3 (by kernel_rfl) (hval 0 22 v0 rfl rfl) h0
  obtain ⟨A_aList, n_aList, c_aList, d_aList, rfl, hm_aList, h_aList⟩ := open_ProofS Try.underlying32 Try.underlying87 (by kernel_rfl) rfl rfl rfl (by kernel_rfl) (by kernel_rfl) (by kernel_rfl) Try.underlying3 Try.underlying3 Try.underlying3 (hval 1 32 v1 rfl rfl) h1
  obtain ⟨aIndex, rfl, rfl, rfl, w_aIndex⟩ := open_int Try.underlying3 (hval 2 3 v2 rfl rfl) h2
  obtain ⟨aSecret, rfl, rfl, rfl, w_aSecret⟩ := open_int Try.underlying3 (hval 3 3 v3 rfl rfl) h3
  refine (walk A_aKeys n_aKeys c_aKeys d_aKeys A_aList n_aList c_aList d_aList aIndex aSecret W hm_aKeys h_aKeys hm_aList h_aList w_aIndex w_aSecret).mono fun e W' ⟨he, hb⟩ => ?_
  subst he
  exact ⟨_, rfl, post_law rfl rfl Try.underlying4 (by kernel_rfl) (by kernel_rfl) hW' rfl hb⟩

theorem closed : joinedFacts Try.prog 6 Try.f6 Rows.fnExactEitherTapeSpec Rows.fnExactEitherTapeRow = true := joined_of (by kernel_rfl)
theorem over : Rows.fnExactEitherTapeRow.holds Try.pinned (OpenSpec.ofChange Rows.fnExactEitherTapeSpec) :=
  OpenClaim.holds_of_wide 6 Try.f6 rfl rfl rfl rfl rfl rfl rfl ⟨rfl, rfl, rfl, rfl, rfl⟩ rfl rfl rfl rfl rfl (by kernel_rfl) Try.func6 closed
    (of_decide_eq_true (by kernel_rfl)) (by unfold Func.isWrapper; first | (rw [if_pos (by decide +kernel)]; kernel_rfl) | (rw [if_neg (by decide +kernel)]; exact ⟨rfl, rfl⟩))
    (fun os started H enc _ => lifted os started H enc)
/-- the statement -/
theorem proved : Rows.FnExactEitherTapeSaid :=
  over
end Go.Proofs.Ytalokhilodlhfaa.fnExactEitherTape
