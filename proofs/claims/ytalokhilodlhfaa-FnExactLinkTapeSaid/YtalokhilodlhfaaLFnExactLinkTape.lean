/- FnExactLinkTape answers true at every input: at each argument the function and its model answer alike, no argument is written, and the answer owns its memory. No condition. -/
import Derived.Test.YtalokhilodlhfaaRows
import Derived.Test.YtalokhilodlhfaaLaw
import Derived.Test.YtalokhilodlhfaaDoor
import Derived.Test.YtalokhilodlhfaaWalk16k
import Derived.Test.YtalokhilodlhfaaOpenP
import Derived.Test.YtalokhilodlhfaaFaceI
namespace Go.Proofs.Ytalokhilodlhfaa.fnExactLinkTape
open Go.ChangeShapes Go.WideShapes Go.ChangeAt Go.RowKit
theorem own : ownKnob Try.prog.godebug = none := by kernel_rfl
set_option maxRecDepth 100000 in
set_option maxHeartbeats 4000000 in
theorem walk (A_aKeys : Option Addr) (n_aKeys c_aKeys : Nat) (d_aKeys : List Int) (A_aMessage : Option Addr) (n_aMessage c_aMessage : Nat) (d_aMessage : List Int) (aTag : Int) (A_aList : Option Addr) (n_aList c_aList : Nat) (d_aList : List (Int × Int × Int × Int)) (aIndex : Int) (aSecret : Int) (w : World) (hm_aKeys : n_aKeys ≤ 9223372036854775807) (h_aKeys : Rd w w.heap.size 1 A_aKeys n_aKeys (cI d_aKeys)) (hm_aMessage : n_aMessage ≤ 9223372036854775807) (h_aMessage : Rd w w.heap.size 1 A_aMessage n_aMessage (cI d_aMessage)) (_w_aTag : (Lit.int .i64 aTag).wf = true) (hm_aList : n_aList ≤ 9223372036854775807) (h_aList : Rd w w.heap.size 4 A_aList n_aList (cTwin d_aList)) (_w_aIndex : (Lit.int .i64 aIndex).wf = true) (_w_aSecret : (Lit.int .i64 aSecret).wf = true) :
    Calls Try.prog 11 #[.slice A_aKeys n_aKeys c_aKeys, .slice A_aMessage n_aMessage c_aMessage, .int .i64 aTag, .slice A_aList n_aList c_aList, .int .i64 aIndex, .int .i64 aSecret] w fun e w' => e = .returned (.bool true) ∧ Below w.heap.size w w' := by
  by_cases hs_aKeys : szIntS d_aKeys ≤ 1048576
  · have hn_aKeys : n_aKeys ≤ 1048576 := by have := h_aKeys.len; unfold szIntS at hs_aKeys; omega
    by_cases hs_aMessage : szIntS d_aMessage ≤ 1048576
    · have hn_aMessage : n_aMessage ≤ 1048576 := by have := h_aMessage.len; unfold szIntS at hs_aMessage; omega
      have Ha_aKeys : Hid (RdIntS w w.heap.size (.slice A_aKeys n_aKeys c_aKeys) d_aKeys) := Lib.hid (⟨A_aKeys, n_aKeys, c_aKeys, rfl, hm_aKeys, h_aKeys⟩)
      have Ha_aMessage : Hid (RdIntS w w.heap.size (.slice A_aMessage n_aMessage c_aMessage) d_aMessage) := Lib.hid (⟨A_aMessage, n_aMessage, c_aMessage, rfl, hm_aMessage, h_aMessage⟩)
      have Ha_aList : Hid (RdTwinS w w.heap.size (.slice A_aList n_aList c_aList) d_aList) := Lib.hid (⟨A_aList, n_aList, c_aList, rfl, hm_aList, h_aList⟩)
      clear h_aKeys h_aMessage h_aList
      go_enter Try.func11, Try.ntmps11
      go_wp2_with fail
      rcases Int.lt_or_le 1048576 (szTwinS d_aList : Nat) with hl1 | hl1
      · refine (L_szTwinS_no _ _ _ _ _ Ha_aList.out (by omega) (by omega) hl1).mono ?_
        rintro e w' ⟨rfl, hb⟩
        have hb2 := Lib.hid hb
        clear hb
        go_wp2
        go_ret
        exact ⟨rfl, hb2.out⟩
      refine (L_szTwinS_ok _ _ _ _ _ Ha_aList.out (by omega) (by omega) hl1).mono ?_
      rintro e w2 ⟨L3, rfl, hx6, h0_4, h1_5, hy7⟩
      have hs_aList : szTwinS d_aList ≤ 1048576 := by omega
      have z8 : w.heap.size ≤ w2.heap.size := hy7.size
      have HS9 := Lib.hid hy7
      clear hy7
      have HB10 : Hid (Below w.heap.size w w2) := Lib.hid (HS9.out.mono (by omega))
      clear HS9
      go_wp2_with fail
      refine (L_toIntS _ _ _ _ (RdIntS.below Ha_aKeys.out HB10.out) HB10.out.size hs_aKeys).mono ?_
      rintro e w12 ⟨v11, rfl, hx16, hy17⟩
      have z15 : w2.heap.size ≤ w12.heap.size := hy17.size
      have HO13 := Lib.hid hx16
      have HS14 := Lib.hid hy17
      clear hx16 hy17
      have HB18 : Hid (Below w.heap.size w w12) := Lib.hid (HB10.out.trans (HS14.out.mono (by omega)))
      clear HB10
      clear HS14
      go_wp2_with fail
      refine (L_toIntS _ _ _ _ (RdIntS.below Ha_aMessage.out HB18.out) HB18.out.size hs_aMessage).mono ?_
      rintro e w20 ⟨v19, rfl, hx24, hy25⟩
      have z23 : w12.heap.size ≤ w20.heap.size := hy25.size
      have HO21 := Lib.hid hx24
      have HS22 := Lib.hid hy25
      clear hx24 hy25
      have HO26 := Lib.hid (HO13.out.below HS22.out (by omega))
      clear HO13
      have HB27 : Hid (Below w.heap.size w w20) := Lib.hid (HB18.out.trans (HS22.out.mono (by omega)))
      clear HB18
      clear HS22
      go_wp2_with fail
      refine (L_toTwinS _ _ _ _ (RdTwinS.below Ha_aList.out HB27.out) HB27.out.size hs_aList).mono ?_
      rintro e w29 ⟨v28, rfl, hx33, hy34⟩
      have z32 : w20.heap.size ≤ w29.heap.size := hy34.size
      have HO30 := Lib.hid hx33
      have HS31 := Lib.hid hy34
      clear hx33 hy34
      have HO35 := Lib.hid (HO26.out.below HS31.out (by omega))
      clear HO26
      have HO36 := Lib.hid (HO21.out.below HS31.out (by omega))
      clear HO21
      have HB37 : Hid (Below w.heap.size w w29) := Lib.hid (HB27.out.trans (HS31.out.mono (by omega)))
      clear HB27
      clear HS31
      go_wp2_with fail
      refine (X_s_LinkTape _ _ _ d_aKeys d_aMessage aTag d_aList aIndex aSecret _ (HO35.out.rd.more (by omega)) (HO36.out.rd.more (by omega)) (HO30.out.rd.more (by omega)) hs_aKeys hs_aMessage hs_aList).mono ?_
      rintro e w38 ⟨w0_w38, rfl, hx39, hy40⟩
      have z41 : w29.heap.size ≤ w38.heap.size := hy40.size
      have HO42 := Lib.hid hx39
      clear hx39
      have HS43 := Lib.hid hy40
      clear hy40
      have HO44 := Lib.hid (HO35.out.below HS43.out (by omega))
      clear HO35
      have HO45 := Lib.hid (HO36.out.below HS43.out (by omega))
      clear HO36
      have HO46 := Lib.hid (HO30.out.below HS43.out (by omega))
      clear HO30
      have HB47 : Hid (Below w.heap.size w w38) := Lib.hid (HB37.out.trans (HS43.out.mono (by omega)))
      clear HB37
      clear HS43
      clear HO44
      clear HO45
      clear HO46
      go_wp2_with fail
      refine (L_toIntS _ _ _ _ (RdIntS.below Ha_aKeys.out HB47.out) HB47.out.size hs_aKeys).mono ?_
      rintro e w49 ⟨v48, rfl, hx53, hy54⟩
      have z52 : w38.heap.size ≤ w49.heap.size := hy54.size
      have HO50 := Lib.hid hx53
      have HS51 := Lib.hid hy54
      clear hx53 hy54
      have HO55 := Lib.hid (HO42.out.below HS51.out (by omega))
      clear HO42
      have HB56 : Hid (Below w.heap.size w w49) := Lib.hid (HB47.out.trans (HS51.out.mono (by omega)))
      clear HB47
      clear HS51
      go_wp2_with fail
      refine (L_toIntS _ _ _ _ (RdIntS.below Ha_aMessage.out HB56.out) HB56.out.size hs_aMessage).mono ?_
      rintro e w58 ⟨v57, rfl, hx62, hy63⟩
      have z61 : w49.heap.size ≤ w58.heap.size := hy63.size
      have HO59 := Lib.hid hx62
      have HS60 := Lib.hid hy63
      clear hx62 hy63
      have HO64 := Lib.hid (HO55.out.below HS60.out (by omega))
      clear HO55
      have HO65 := Lib.hid (HO50.out.below HS60.out (by omega))
      clear HO50
      have HB66 : Hid (Below w.heap.size w w58) := Lib.hid (HB56.out.trans (HS60.out.mono (by omega)))
      clear HB56
      clear HS60
      go_wp2_with fail
      refine (L_toTwinS _ _ _ _ (RdTwinS.below Ha_aList.out HB66.out) HB66.out.size hs_aList).mono ?_
      rintro e w68 ⟨v67, rfl, hx72, hy73⟩
      have z71 : w58.heap.size ≤ w68.heap.size := hy73.size
      have HO69 := Lib.hid hx72
      have HS70 := Lib.hid hy73
      clear hx72 hy73
      have HO74 := Lib.hid (HO64.out.below HS70.out (by omega))
      clear HO64
      have HO75 := Lib.hid (HO65.out.below HS70.out (by omega))
      clear HO65
      have HO76 := Lib.hid (HO59.out.below HS70.out (by omega))
      clear HO59
      have HB77 : Hid (Below w.heap.size w w68) := Lib.hid (HB66.out.trans (HS70.out.mono (by omega)))
      clear HB66
      clear HS70
      go_wp2_with fail
      refine (X_i_LinkTape _ _ _ d_aKeys d_aMessage aTag d_aList aIndex aSecret _ (HO75.out.rd.more (by omega)) (HO76.out.rd.more (by omega)) (HO69.out.rd.more (by omega)) hs_aKeys hs_aMessage hs_aList).mono ?_
      rintro e w78 ⟨g0_w78, rfl, hx79, hy80⟩
      have z81 : w68.heap.size ≤ w78.heap.size := hy80.size
      have HO82 := Lib.hid hx79
      clear hx79
      have HS83 := Lib.hid hy80
      clear hy80
      have HO84 := Lib.hid (HO74.out.below HS83.out (by omega))
      clear HO74
      have HO85 := Lib.hid (HO75.out.below HS83.out (by omega))
      clear HO75
      have HO86 := Lib.hid (HO76.out.below HS83.out (by omega))
      clear HO76
      have HO87 := Lib.hid (HO69.out.below HS83.out (by omega))
      clear HO69
      have HB88 : Hid (Below w.heap.size w w78) := Lib.hid (HB77.out.trans (HS83.out.mono (by omega)))
      clear HB77
      clear HS83
      go_wp2_with fail
      refine (L_eqIntS _ _ _ _ _ _ HO82.out.rd HO84.out.rd (by omega) (by omega) HO82.out.small).mono ?_
      rintro e w89 ⟨rfl, hx90⟩
      have z91 : w78.heap.size ≤ w89.heap.size := hx90.size
      have HS92 := Lib.hid hx90
      clear hx90
      have HO93 := Lib.hid (HO84.out.below HS92.out (by omega))
      clear HO84
      have HO94 := Lib.hid (HO85.out.below HS92.out (by omega))
      clear HO85
      have HO95 := Lib.hid (HO86.out.below HS92.out (by omega))
      clear HO86
      have HO96 := Lib.hid (HO87.out.below HS92.out (by omega))
      clear HO87
      have HO97 := Lib.hid (HO82.out.below HS92.out (by omega))
      clear HO82
      have HB98 : Hid (Below w.heap.size w w89) := Lib.hid (HB88.out.trans (HS92.out.mono (by omega)))
      clear HB88
      clear HS92
      go_wp2_with fail
      refine (L_toIntS _ _ _ _ (RdIntS.below Ha_aKeys.out HB98.out) HB98.out.size hs_aKeys).mono ?_
      rintro e w100 ⟨v99, rfl, hx104, hy105⟩
      have z103 : w89.heap.size ≤ w100.heap.size := hy105.size
      have HO101 := Lib.hid hx104
      have HS102 := Lib.hid hy105
      clear hx104 hy105
      have HO106 := Lib.hid (HO93.out.below HS102.out (by omega))
      clear HO93
      have HO107 := Lib.hid (HO94.out.below HS102.out (by omega))
      clear HO94
      have HO108 := Lib.hid (HO95.out.below HS102.out (by omega))
      clear HO95
      have HO109 := Lib.hid (HO96.out.below HS102.out (by omega))
      clear HO96
      have HO110 := Lib.hid (HO97.out.below HS102.out (by omega))
      clear HO97
      have HB111 : Hid (Below w.heap.size w w100) := Lib.hid (HB98.out.trans (HS102.out.mono (by omega)))
      clear HB98
      clear HS102
      go_wp2_with fail
      refine (L_eqIntS _ _ _ _ _ _ HO107.out.rd HO101.out.rd (by omega) (by omega) HO107.out.small).mono ?_
      rintro e w112 ⟨rfl, hx113⟩
      have z114 : w100.heap.size ≤ w112.heap.size := hx113.size
      have HS115 := Lib.hid hx113
      clear hx113
      have HO116 := Lib.hid (HO106.out.below HS115.out (by omega))
      clear HO106
      have HO117 := Lib.hid (HO107.out.below HS115.out (by omega))
      clear HO107
      have HO118 := Lib.hid (HO108.out.below HS115.out (by omega))
      clear HO108
      have HO119 := Lib.hid (HO109.out.below HS115.out (by omega))
      clear HO109
      have HO120 := Lib.hid (HO110.out.below HS115.out (by omega))
      clear HO110
      have HO121 := Lib.hid (HO101.out.below HS115.out (by omega))
      clear HO101
      have HB122 : Hid (Below w.heap.size w w112) := Lib.hid (HB111.out.trans (HS115.out.mono (by omega)))
      clear HB111
      clear HS115
      clear HO121
      go_wp2_with fail
      refine (L_toIntS _ _ _ _ (RdIntS.below Ha_aMessage.out HB122.out) HB122.out.size hs_aMessage).mono ?_
      rintro e w124 ⟨v123, rfl, hx128, hy129⟩
      have z127 : w112.heap.size ≤ w124.heap.size := hy129.size
      have HO125 := Lib.hid hx128
      have HS126 := Lib.hid hy129
      clear hx128 hy129
      have HO130 := Lib.hid (HO116.out.below HS126.out (by omega))
      clear HO116
      have HO131 := Lib.hid (HO117.out.below HS126.out (by omega))
      clear HO117
      have HO132 := Lib.hid (HO118.out.below HS126.out (by omega))
      clear HO118
      have HO133 := Lib.hid (HO119.out.below HS126.out (by omega))
      clear HO119
      have HO134 := Lib.hid (HO120.out.below HS126.out (by omega))
      clear HO120
      have HB135 : Hid (Below w.heap.size w w124) := Lib.hid (HB122.out.trans (HS126.out.mono (by omega)))
      clear HB122
      clear HS126
      go_wp2_with fail
      refine (L_eqIntS _ _ _ _ _ _ HO132.out.rd HO125.out.rd (by omega) (by omega) HO132.out.small).mono ?_
      rintro e w136 ⟨rfl, hx137⟩
      have z138 : w124.heap.size ≤ w136.heap.size := hx137.size
      have HS139 := Lib.hid hx137
      clear hx137
      have HO140 := Lib.hid (HO130.out.below HS139.out (by omega))
      clear HO130
      have HO141 := Lib.hid (HO131.out.below HS139.out (by omega))
      clear HO131
      have HO142 := Lib.hid (HO132.out.below HS139.out (by omega))
      clear HO132
      have HO143 := Lib.hid (HO133.out.below HS139.out (by omega))
      clear HO133
      have HO144 := Lib.hid (HO134.out.below HS139.out (by omega))
      clear HO134
      have HO145 := Lib.hid (HO125.out.below HS139.out (by omega))
      clear HO125
      have HB146 : Hid (Below w.heap.size w w136) := Lib.hid (HB135.out.trans (HS139.out.mono (by omega)))
      clear HB135
      clear HS139
      clear HO145
      go_wp2_with fail
      refine (L_toTwinS _ _ _ _ (RdTwinS.below Ha_aList.out HB146.out) HB146.out.size hs_aList).mono ?_
      rintro e w148 ⟨v147, rfl, hx152, hy153⟩
      have z151 : w136.heap.size ≤ w148.heap.size := hy153.size
      have HO149 := Lib.hid hx152
      have HS150 := Lib.hid hy153
      clear hx152 hy153
      have HO154 := Lib.hid (HO140.out.below HS150.out (by omega))
      clear HO140
      have HO155 := Lib.hid (HO141.out.below HS150.out (by omega))
      clear HO141
      have HO156 := Lib.hid (HO142.out.below HS150.out (by omega))
      clear HO142
      have HO157 := Lib.hid (HO143.out.below HS150.out (by omega))
      clear HO143
      have HO158 := Lib.hid (HO144.out.below HS150.out (by omega))
      clear HO144
      have HB159 : Hid (Below w.heap.size w w148) := Lib.hid (HB146.out.trans (HS150.out.mono (by omega)))
      clear HB146
      clear HS150
      go_wp2_with fail
      refine (L_eqTwinS _ _ _ _ _ _ HO157.out.rd HO149.out.rd (by omega) (by omega) HO157.out.small).mono ?_
      rintro e w160 ⟨rfl, hx161⟩
      have z162 : w148.heap.size ≤ w160.heap.size := hx161.size
      have HS163 := Lib.hid hx161
      clear hx161
      have HO164 := Lib.hid (HO154.out.below HS163.out (by omega))
      clear HO154
      have HO165 := Lib.hid (HO155.out.below HS163.out (by omega))
      clear HO155
      have HO166 := Lib.hid (HO156.out.below HS163.out (by omega))
      clear HO156
      have HO167 := Lib.hid (HO157.out.below HS163.out (by omega))
      clear HO157
      have HO168 := Lib.hid (HO158.out.below HS163.out (by omega))
      clear HO158
      have HO169 := Lib.hid (HO149.out.below HS163.out (by omega))
      clear HO149
      have HB170 : Hid (Below w.heap.size w w160) := Lib.hid (HB159.out.trans (HS163.out.mono (by omega)))
      clear HB159
      clear HS163
      clear HO169
      go_wp2_with fail
      refine (L_markIntS _ _ _ _ _ _ HO165.out (by omega) (by omega) (by omega)).mono ?_
      rintro e w171 ⟨K172, rfl, hk173, h0_174, h1_175, hx176, hy177⟩
      have z178 : w160.heap.size ≤ w171.heap.size := hy177.size
      have HO179 := Lib.hid hx176
      have HS180 := Lib.hid hy177
      clear hx176 hy177
      have HO181 := Lib.hid (HO164.out.kept HS180.out (by omega) (by omega))
      clear HO164
      have HO182 := Lib.hid (HO166.out.kept HS180.out (by omega) (by omega))
      clear HO166
      have HO183 := Lib.hid (HO167.out.kept HS180.out (by omega) (by omega))
      clear HO167
      have HO184 := Lib.hid (HO168.out.kept HS180.out (by omega) (by omega))
      clear HO168
      have HB185 : Hid (Below w.heap.size w w171) := Lib.hid (HB170.out.trans ((HS180.out.to_below (by omega)).mono (by omega)))
      clear HB170
      clear HS180 HO165
      go_wp2_with fail
      refine (L_markIntS _ _ _ _ _ _ HO182.out (by omega) (by omega) (by omega)).mono ?_
      rintro e w186 ⟨K187, rfl, hk188, h0_189, h1_190, hx191, hy192⟩
      have z193 : w171.heap.size ≤ w186.heap.size := hy192.size
      have HO194 := Lib.hid hx191
      have HS195 := Lib.hid hy192
      clear hx191 hy192
      have HO196 := Lib.hid (HO181.out.kept HS195.out (by omega) (by omega))
      clear HO181
      have HO197 := Lib.hid (HO179.out.kept HS195.out (by omega) (by omega))
      clear HO179
      have HO198 := Lib.hid (HO183.out.kept HS195.out (by omega) (by omega))
      clear HO183
      have HO199 := Lib.hid (HO184.out.kept HS195.out (by omega) (by omega))
      clear HO184
      have HB200 : Hid (Below w.heap.size w w186) := Lib.hid (HB185.out.trans ((HS195.out.to_below (by omega)).mono (by omega)))
      clear HB185
      clear HS195 HO182
      go_wp2_with fail
      refine (L_markTwinS _ _ _ _ _ _ HO198.out (by omega) (by omega) (by omega)).mono ?_
      rintro e w201 ⟨K202, rfl, hk203, h0_204, h1_205, hx206, hy207⟩
      have z208 : w186.heap.size ≤ w201.heap.size := hy207.size
      have HO209 := Lib.hid hx206
      have HS210 := Lib.hid hy207
      clear hx206 hy207
      have HO211 := Lib.hid (HO196.out.kept HS210.out (by omega) (by omega))
      clear HO196
      have HO212 := Lib.hid (HO197.out.kept HS210.out (by omega) (by omega))
      clear HO197
      have HO213 := Lib.hid (HO194.out.kept HS210.out (by omega) (by omega))
      clear HO194
      have HO214 := Lib.hid (HO199.out.kept HS210.out (by omega) (by omega))
      clear HO199
      have HB215 : Hid (Below w.heap.size w w201) := Lib.hid (HB200.out.trans ((HS210.out.to_below (by omega)).mono (by omega)))
      clear HB200
      clear HS210 HO198
      clear HO212
      clear HO213
      clear HO209
      go_wp2_with fail
      refine (L_eqIntS _ _ _ _ _ _ HO214.out.rd HO211.out.rd (by omega) (by omega) HO214.out.small).mono ?_
      rintro e w216 ⟨rfl, hx217⟩
      have z218 : w201.heap.size ≤ w216.heap.size := hx217.size
      have HS219 := Lib.hid hx217
      clear hx217
      have HO220 := Lib.hid (HO211.out.below HS219.out (by omega))
      clear HO211
      have HO221 := Lib.hid (HO214.out.below HS219.out (by omega))
      clear HO214
      have HB222 : Hid (Below w.heap.size w w216) := Lib.hid (HB215.out.trans (HS219.out.mono (by omega)))
      clear HB215
      clear HS219
      have hs223 := HO221.out.small
      go_wp2_with fail
      refine (L_markIntS _ _ _ _ _ _ HO221.out (by omega) (by omega) (by omega)).mono ?_
      rintro e w224 ⟨K225, rfl, hk226, h0_227, h1_228, hx229, hy230⟩
      have z231 : w216.heap.size ≤ w224.heap.size := hy230.size
      have HO232 := Lib.hid hx229
      have HS233 := Lib.hid hy230
      clear hx229 hy230
      have HO234 := Lib.hid (HO220.out.kept HS233.out (by omega) (by omega))
      clear HO220
      have HB235 : Hid (Below w.heap.size w w224) := Lib.hid (HB222.out.trans ((HS233.out.to_below (by omega)).mono (by omega)))
      clear HB222
      clear HS233 HO221
      go_wp2_with fail
      refine (L_heldIntS _ _ (R_LinkTape_0 d_aKeys d_aMessage aTag d_aList aIndex aSecret) 1 _ _ HO232.out.rd (by omega) hs223 (Lib.hid rfl) (by omega) (by omega)).mono ?_
      rintro e w236 ⟨K237, rfl, hk238, h0_239, h1_240, hx241⟩
      have z242 : w224.heap.size ≤ w236.heap.size := hx241.size
      have HS243 := Lib.hid hx241
      clear hx241
      have HE244 : Hid (K237 = K225) := Lib.hid (by rw [hk238.out, hk226.out])
      have hne245 : (K237 != K225) = false := by rw [HE244.out]; simp
      have HO246 := Lib.hid (HO234.out.below HS243.out (by omega))
      clear HO234
      have HO247 := Lib.hid (HO232.out.below HS243.out (by omega))
      clear HO232
      have HB248 : Hid (Below w.heap.size w w236) := Lib.hid (HB235.out.trans (HS243.out.mono (by omega)))
      clear HB235
      clear HS243
      go_wp2_with fail
      refine (L_toIntS _ _ _ _ (RdIntS.below Ha_aKeys.out HB248.out) HB248.out.size hs_aKeys).mono ?_
      rintro e w250 ⟨v249, rfl, hx254, hy255⟩
      have z253 : w236.heap.size ≤ w250.heap.size := hy255.size
      have HO251 := Lib.hid hx254
      have HS252 := Lib.hid hy255
      clear hx254 hy255
      have HO256 := Lib.hid (HO246.out.below HS252.out (by omega))
      clear HO246
      have HO257 := Lib.hid (HO247.out.below HS252.out (by omega))
      clear HO247
      have HB258 : Hid (Below w.heap.size w w250) := Lib.hid (HB248.out.trans (HS252.out.mono (by omega)))
      clear HB248
      clear HS252
      go_wp2_with fail
      refine (L_toIntS _ _ _ _ (RdIntS.below Ha_aMessage.out HB258.out) HB258.out.size hs_aMessage).mono ?_
      rintro e w260 ⟨v259, rfl, hx264, hy265⟩
      have z263 : w250.heap.size ≤ w260.heap.size := hy265.size
      have HO261 := Lib.hid hx264
      have HS262 := Lib.hid hy265
      clear hx264 hy265
      have HO266 := Lib.hid (HO256.out.below HS262.out (by omega))
      clear HO256
      have HO267 := Lib.hid (HO257.out.below HS262.out (by omega))
      clear HO257
      have HO268 := Lib.hid (HO251.out.below HS262.out (by omega))
      clear HO251
      have HB269 : Hid (Below w.heap.size w w260) := Lib.hid (HB258.out.trans (HS262.out.mono (by omega)))
      clear HB258
      clear HS262
      go_wp2_with fail
      refine (L_toTwinS _ _ _ _ (RdTwinS.below Ha_aList.out HB269.out) HB269.out.size hs_aList).mono ?_
      rintro e w271 ⟨v270, rfl, hx275, hy276⟩
      have z274 : w260.heap.size ≤ w271.heap.size := hy276.size
      have HO272 := Lib.hid hx275
      have HS273 := Lib.hid hy276
      clear hx275 hy276
      have HO277 := Lib.hid (HO266.out.below HS273.out (by omega))
      clear HO266
      have HO278 := Lib.hid (HO267.out.below HS273.out (by omega))
      clear HO267
      have HO279 := Lib.hid (HO268.out.below HS273.out (by omega))
      clear HO268
      have HO280 := Lib.hid (HO261.out.below HS273.out (by omega))
      clear HO261
      have HB281 : Hid (Below w.heap.size w w271) := Lib.hid (HB269.out.trans (HS273.out.mono (by omega)))
      clear HB269
      clear HS273
      go_wp2_with fail
      refine (X_i_LinkTape _ _ _ d_aKeys d_aMessage aTag d_aList aIndex aSecret _ (HO279.out.rd.more (by omega)) (HO280.out.rd.more (by omega)) (HO272.out.rd.more (by omega)) hs_aKeys hs_aMessage hs_aList).mono ?_
      rintro e w282 ⟨h0_w282, rfl, hx283, hy284⟩
      have z285 : w271.heap.size ≤ w282.heap.size := hy284.size
      have HO286 := Lib.hid hx283
      clear hx283
      have HS287 := Lib.hid hy284
      clear hy284
      have HO288 := Lib.hid (HO277.out.below HS287.out (by omega))
      clear HO277
      have HO289 := Lib.hid (HO278.out.below HS287.out (by omega))
      clear HO278
      have HO290 := Lib.hid (HO279.out.below HS287.out (by omega))
      clear HO279
      have HO291 := Lib.hid (HO280.out.below HS287.out (by omega))
      clear HO280
      have HO292 := Lib.hid (HO272.out.below HS287.out (by omega))
      clear HO272
      have HB293 : Hid (Below w.heap.size w w282) := Lib.hid (HB281.out.trans (HS287.out.mono (by omega)))
      clear HB281
      clear HS287
      clear HO290
      clear HO291
      clear HO292
      go_wp2_with fail
      refine (L_eqIntS _ _ _ _ _ _ HO286.out.rd HO288.out.rd (by omega) (by omega) HO286.out.small).mono ?_
      rintro e w294 ⟨rfl, hx295⟩
      have z296 : w282.heap.size ≤ w294.heap.size := hx295.size
      have HS297 := Lib.hid hx295
      clear hx295
      have HO298 := Lib.hid (HO288.out.below HS297.out (by omega))
      clear HO288
      have HO299 := Lib.hid (HO289.out.below HS297.out (by omega))
      clear HO289
      have HO300 := Lib.hid (HO286.out.below HS297.out (by omega))
      clear HO286
      have HB301 : Hid (Below w.heap.size w w294) := Lib.hid (HB293.out.trans (HS297.out.mono (by omega)))
      clear HB293
      clear HS297
      go_wp2_with fail
      refine (L_heldIntS _ _ (R_LinkTape_0 d_aKeys d_aMessage aTag d_aList aIndex aSecret) 1 _ _ HO299.out.rd (by omega) hs223 (Lib.hid rfl) (by omega) (by omega)).mono ?_
      rintro e w302 ⟨K303, rfl, hk304, h0_305, h1_306, hx307⟩
      have z308 : w294.heap.size ≤ w302.heap.size := hx307.size
      have HS309 := Lib.hid hx307
      clear hx307
      have HE310 : Hid (K303 = K225) := Lib.hid (by rw [hk304.out, hk226.out])
      have hne311 : (K303 != K225) = false := by rw [HE310.out]; simp
      have HO312 := Lib.hid (HO298.out.below HS309.out (by omega))
      clear HO298
      have HO313 := Lib.hid (HO299.out.below HS309.out (by omega))
      clear HO299
      have HO314 := Lib.hid (HO300.out.below HS309.out (by omega))
      clear HO300
      have HB315 : Hid (Below w.heap.size w w302) := Lib.hid (HB301.out.trans (HS309.out.mono (by omega)))
      clear HB301
      clear HS309
      go_wp2
      go_ret
      exact ⟨rfl, HB315.out⟩
    · have hn_aMessage : ¬ n_aMessage ≤ 1048576 := by have := h_aMessage.len; unfold szIntS at hs_aMessage; omega
      go_enter Try.func11, Try.ntmps11
      go_wp2
      go_ret
      exact ⟨rfl, by first | exact Below.refl _ _ | exact (Below.refl _ _).alloc (Nat.le_refl _) _ | exact ((Below.refl _ _).alloc (Nat.le_refl _) _).alloc (by simp) _⟩
  · have hn_aKeys : ¬ n_aKeys ≤ 1048576 := by have := h_aKeys.len; unfold szIntS at hs_aKeys; omega
    go_enter Try.func11, Try.ntmps11
    go_wp2
    go_ret
    exact ⟨rfl, by first | exact Below.refl _ _ | exact (Below.refl _ _).alloc (Nat.le_refl _) _ | exact ((Below.refl _ _).alloc (Nat.le_refl _) _).alloc (by simp) _⟩

set_option maxRecDepth 100000 in
theorem lifted (os : Os) (started : os.Started) (H : Type) (enc : TypeId × Value → H) :
    ReturnsInHanded {} Try.checked os 11 .any (Rows.fnExactLinkTapeSpec.pre6 enc Try.prog Try.f11 Rows.fnExactLinkTapeRow.domain false) (Rows.fnExactLinkTapeSpec.post enc Try.prog Try.f11 false true false false) := by
  refine returnsInHanded_of_change (C := Try.checked) own started (by kernel_rfl) Try.func11
    (ChangeSpec.witness6 (enc := enc) (C := Try.checked) false ⟨#[], #[.slice none 0 0, .slice none 0 0, .int .i64 0, .slice none 0 0, .int .i64 0, .int .i64 0], []⟩ 8 (by kernel_rfl) (by kernel_rfl) (by kernel_rfl) (by kernel_rfl)) ?_
  intro W base args ds gs before hval0 hW hcnd _
  have hval : ∀ (j : Nat) t v, Try.f11.params[j]? = some t → args[j]? = some v → Value.okWide Try.prog W .any base t v := hval0
  have hW' := hW
  obtain ⟨p, q, hA0, hV, rfl, hfz, hnd⟩ := hW
  have hA : DataW.TrodAll enc Try.prog W 0 (fun _ => true) true Try.f11.params.toList args.toList ds p := hA0
  rw [Try.params11] at hA hval
  obtain ⟨v0, vs0, dd0, ds0, p0, q0, hargs, rfl, rfl, h0, r0⟩ := trodAll_cons hA
  obtain ⟨v1, vs1, dd1, ds1, p1, q1, rfl, rfl, rfl, h1, r1⟩ := trodAll_cons r0
  obtain ⟨v2, vs2, dd2, ds2, p2, q2, rfl, rfl, rfl, h2, r2⟩ := trodAll_cons r1
  obtain ⟨v3, vs3, dd3, ds3, p3, q3, rfl, rfl, rfl, h3, r3⟩ := trodAll_cons r2
  obtain ⟨v4, vs4, dd4, ds4, p4, q4, rfl, rfl, rfl, h4, r4⟩ := trodAll_cons r3
  obtain ⟨v5, vs5, dd5, ds5, p5, q5, rfl, rfl, rfl, h5, r5⟩ := trodAll_cons r4
  obtain ⟨rfl, rfl, rfl⟩ := trodAll_nil r5
  obtain rfl : args = #[v0, v1, v2, v3, v4, v5] := by cases args; simp_all
  obtain ⟨rfl, rfl⟩ := trodVars_none hV
  obtain ⟨A_aKeys, n_aKeys, c_aKeys, d_aKeys, rfl, hm_aKeys, h_aKeys⟩ := open_intS Try.underlying22 Try.underlying3 (by kernel_rfl) (hval 0 22 v0 rfl rfl) h0
  obtain ⟨A_aMessage, n_aMessage, c_aMessage, d_aMessage, rfl, hm_aMessage, h_aMessage⟩ := open_intS Try.underlying22 Try.underlying3 (by kernel_rfl) (hval 1 22 v1 rfl rfl) h1
  obtain ⟨aTag, rfl, rfl, rfl, w_aTag⟩ := open_int Try.underlying3 (hval 2 3 v2 rfl rfl) h2
  obtain ⟨A_aList, n_aList, c_aList, d_aList, rfl, hm_aList, h_aList⟩ := open_TwinS Try.underlying52 Try.underlying119 (by kernel_rfl) rfl rfl rfl rfl (by kernel_rfl) (by kernel_rfl) (by kernel_rfl) (by kernel_rfl) Try.underlying3 Try.underlying3 Try.underlying3 Try.underlying3 (hval 3 52 v3 rfl rfl) h3
  obtain ⟨aIndex, rfl, rfl, rfl, w_aIndex⟩ := open_int Try.underlying3 (hval 4 3 v4 rfl rfl) h4
  obtain ⟨aSecret, rfl, rfl, rfl, w_aSecret⟩ := open_int Try.underlying3 (hval 5 3 v5 rfl rfl) h5
  refine (walk A_aKeys n_aKeys c_aKeys d_aKeys A_aMessage n_aMessage c_aMessage d_aMessage aTag A_aList n_aList c_aList d_aList aIndex aSecret W hm_aKeys h_aKeys hm_aMessage h_aMessage w_aTag hm_aList h_aList w_aIndex w_aSecret).mono fun e W' ⟨he, hb⟩ => ?_
  subst he
  exact ⟨_, rfl, post_law rfl rfl Try.underlying4 (by kernel_rfl) (by kernel_rfl) hW' rfl hb⟩

theorem closed : joinedFacts Try.prog 11 Try.f11 Rows.fnExactLinkTapeSpec Rows.fnExactLinkTapeRow = true := joined_of (by kernel_rfl)
theorem over : Rows.fnExactLinkTapeRow.holds Try.pinned (OpenSpec.ofChange Rows.fnExactLinkTapeSpec) :=
  OpenClaim.holds_of_wide 11 Try.f11 rfl rfl rfl rfl rfl rfl rfl ⟨rfl, rfl, rfl, rfl, rfl⟩ rfl rfl rfl rfl rfl (by kernel_rfl) Try.func11 closed
    (of_decide_eq_true (by kernel_rfl)) (by unfold Func.isWrapper; first | (rw [if_pos (by decide +kernel)]; kernel_rfl) | (rw [if_neg (by decide +kernel)]; exact ⟨rfl, rfl⟩))
    (fun os started H enc _ => lifted os started H enc)
/-- the statement -/
theorem proved : Rows.FnExactLinkTapeSaid :=
  over
end Go.Proofs.Ytalokhilodlhfaa.fnExactLinkTape
