/- FnExactLinkSign answers true at every input: at each argument the function and its model answer alike, no argument is written, and the answer owns its memory. No condition. -/
import Derived.Test.YtdhakbpimbadgaaRows
import Derived.Test.YtdhakbpimbadgaaLaw
import Derived.Test.YtdhakbpimbadgaaDoor
import Derived.Test.YtdhakbpimbadgaaFaceI
import Derived.Test.YtdhakbpimbadgaaMFnExactLinkSign
namespace Go.Proofs.Ytdhakbpimbadgaa.fnExactLinkSign
open Go.ChangeShapes Go.WideShapes Go.ChangeAt Go.RowKit
theorem own : ownKnob Try.prog.godebug = none := by kernel_rfl
set_option maxRecDepth 100000 in
set_option maxHeartbeats 4000000 in
theorem walk (A_aKeys : Option Addr) (n_aKeys c_aKeys : Nat) (d_aKeys : List Int) (aIndex : Int) (aSecret : Int) (A_aMessage : Option Addr) (n_aMessage c_aMessage : Nat) (d_aMessage : List Int) (A_aTape : Option Addr) (n_aTape c_aTape : Nat) (d_aTape : List Int) (w : World) (hm_aKeys : n_aKeys ≤ 9223372036854775807) (h_aKeys : Rd w w.heap.size 1 A_aKeys n_aKeys (cI d_aKeys)) (_w_aIndex : (Lit.int .i64 aIndex).wf = true) (_w_aSecret : (Lit.int .i64 aSecret).wf = true) (hm_aMessage : n_aMessage ≤ 9223372036854775807) (h_aMessage : Rd w w.heap.size 1 A_aMessage n_aMessage (cI d_aMessage)) (hm_aTape : n_aTape ≤ 9223372036854775807) (h_aTape : Rd w w.heap.size 1 A_aTape n_aTape (cI d_aTape)) :
    Calls Try.prog 5 #[.slice A_aKeys n_aKeys c_aKeys, .int .i64 aIndex, .int .i64 aSecret, .slice A_aMessage n_aMessage c_aMessage, .slice A_aTape n_aTape c_aTape] w fun e w' => e = .returned (.bool true) ∧ Below w.heap.size w w' := by
  by_cases hs_aKeys : szIntS d_aKeys ≤ 1048576
  · have hn_aKeys : n_aKeys ≤ 1048576 := by have := h_aKeys.len; unfold szIntS at hs_aKeys; omega
    by_cases hs_aMessage : szIntS d_aMessage ≤ 1048576
    · have hn_aMessage : n_aMessage ≤ 1048576 := by have := h_aMessage.len; unfold szIntS at hs_aMessage; omega
      by_cases hs_aTape : szIntS d_aTape ≤ 1048576
      · have hn_aTape : n_aTape ≤ 1048576 := by have := h_aTape.len; unfold szIntS at hs_aTape; omega
        have Ha_aKeys : Hid (RdIntS w w.heap.size (.slice A_aKeys n_aKeys c_aKeys) d_aKeys) := Lib.hid (⟨A_aKeys, n_aKeys, c_aKeys, rfl, hm_aKeys, h_aKeys⟩)
        have Ha_aMessage : Hid (RdIntS w w.heap.size (.slice A_aMessage n_aMessage c_aMessage) d_aMessage) := Lib.hid (⟨A_aMessage, n_aMessage, c_aMessage, rfl, hm_aMessage, h_aMessage⟩)
        have Ha_aTape : Hid (RdIntS w w.heap.size (.slice A_aTape n_aTape c_aTape) d_aTape) := Lib.hid (⟨A_aTape, n_aTape, c_aTape, rfl, hm_aTape, h_aTape⟩)
        clear h_aKeys h_aMessage h_aTape
        go_enter Try.func5, Try.ntmps5
        go_wp2_with fail
        refine (L_toIntS _ _ _ _ Ha_aKeys.out (Nat.le_refl _) hs_aKeys).mono ?_
        rintro e w2 ⟨v1, rfl, hx6, hy7⟩
        have z5 : w.heap.size ≤ w2.heap.size := hy7.size
        have HO3 := Lib.hid hx6
        have HS4 := Lib.hid hy7
        clear hx6 hy7
        have HB8 : Hid (Below w.heap.size w w2) := Lib.hid (HS4.out.mono (by omega))
        clear HS4
        go_wp2_with fail
        refine (L_toIntS _ _ _ _ (RdIntS.below Ha_aMessage.out HB8.out) HB8.out.size hs_aMessage).mono ?_
        rintro e w10 ⟨v9, rfl, hx14, hy15⟩
        have z13 : w2.heap.size ≤ w10.heap.size := hy15.size
        have HO11 := Lib.hid hx14
        have HS12 := Lib.hid hy15
        clear hx14 hy15
        have HO16 := Lib.hid (HO3.out.below HS12.out (by omega))
        clear HO3
        have HB17 : Hid (Below w.heap.size w w10) := Lib.hid (HB8.out.trans (HS12.out.mono (by omega)))
        clear HB8
        clear HS12
        go_wp2_with fail
        refine (L_toIntS _ _ _ _ (RdIntS.below Ha_aTape.out HB17.out) HB17.out.size hs_aTape).mono ?_
        rintro e w19 ⟨v18, rfl, hx23, hy24⟩
        have z22 : w10.heap.size ≤ w19.heap.size := hy24.size
        have HO20 := Lib.hid hx23
        have HS21 := Lib.hid hy24
        clear hx23 hy24
        have HO25 := Lib.hid (HO16.out.below HS21.out (by omega))
        clear HO16
        have HO26 := Lib.hid (HO11.out.below HS21.out (by omega))
        clear HO11
        have HB27 : Hid (Below w.heap.size w w19) := Lib.hid (HB17.out.trans (HS21.out.mono (by omega)))
        clear HB17
        clear HS21
        go_wp2_with fail
        refine (X_s_LinkSign _ _ _ d_aKeys aIndex aSecret d_aMessage d_aTape _ (HO25.out.rd.more (by omega)) (HO26.out.rd.more (by omega)) (HO20.out.rd.more (by omega)) hs_aKeys hs_aMessage hs_aTape).mono ?_
        rintro e w28 ⟨w1_w28, rfl, hx29, hy30⟩
        have z31 : w19.heap.size ≤ w28.heap.size := hy30.size
        have HO32 := Lib.hid hx29
        clear hx29
        have HS33 := Lib.hid hy30
        clear hy30
        have HO34 := Lib.hid (HO25.out.below HS33.out (by omega))
        clear HO25
        have HO35 := Lib.hid (HO26.out.below HS33.out (by omega))
        clear HO26
        have HO36 := Lib.hid (HO20.out.below HS33.out (by omega))
        clear HO20
        have HB37 : Hid (Below w.heap.size w w28) := Lib.hid (HB27.out.trans (HS33.out.mono (by omega)))
        clear HB27
        clear HS33
        clear HO34
        clear HO35
        clear HO36
        go_wp2_with fail
        refine (L_toIntS _ _ _ _ (RdIntS.below Ha_aKeys.out HB37.out) HB37.out.size hs_aKeys).mono ?_
        rintro e w39 ⟨v38, rfl, hx43, hy44⟩
        have z42 : w28.heap.size ≤ w39.heap.size := hy44.size
        have HO40 := Lib.hid hx43
        have HS41 := Lib.hid hy44
        clear hx43 hy44
        have HO45 := Lib.hid (HO32.out.below HS41.out (by omega))
        clear HO32
        have HB46 : Hid (Below w.heap.size w w39) := Lib.hid (HB37.out.trans (HS41.out.mono (by omega)))
        clear HB37
        clear HS41
        go_wp2_with fail
        refine (L_toIntS _ _ _ _ (RdIntS.below Ha_aMessage.out HB46.out) HB46.out.size hs_aMessage).mono ?_
        rintro e w48 ⟨v47, rfl, hx52, hy53⟩
        have z51 : w39.heap.size ≤ w48.heap.size := hy53.size
        have HO49 := Lib.hid hx52
        have HS50 := Lib.hid hy53
        clear hx52 hy53
        have HO54 := Lib.hid (HO45.out.below HS50.out (by omega))
        clear HO45
        have HO55 := Lib.hid (HO40.out.below HS50.out (by omega))
        clear HO40
        have HB56 : Hid (Below w.heap.size w w48) := Lib.hid (HB46.out.trans (HS50.out.mono (by omega)))
        clear HB46
        clear HS50
        go_wp2_with fail
        refine (L_toIntS _ _ _ _ (RdIntS.below Ha_aTape.out HB56.out) HB56.out.size hs_aTape).mono ?_
        rintro e w58 ⟨v57, rfl, hx62, hy63⟩
        have z61 : w48.heap.size ≤ w58.heap.size := hy63.size
        have HO59 := Lib.hid hx62
        have HS60 := Lib.hid hy63
        clear hx62 hy63
        have HO64 := Lib.hid (HO54.out.below HS60.out (by omega))
        clear HO54
        have HO65 := Lib.hid (HO55.out.below HS60.out (by omega))
        clear HO55
        have HO66 := Lib.hid (HO49.out.below HS60.out (by omega))
        clear HO49
        have HB67 : Hid (Below w.heap.size w w58) := Lib.hid (HB56.out.trans (HS60.out.mono (by omega)))
        clear HB56
        clear HS60
        go_wp2_with fail
        refine (X_i_LinkSign _ _ _ d_aKeys aIndex aSecret d_aMessage d_aTape _ (HO65.out.rd.more (by omega)) (HO66.out.rd.more (by omega)) (HO59.out.rd.more (by omega)) hs_aKeys hs_aMessage hs_aTape).mono ?_
        rintro e w68 ⟨g1_w68, rfl, hx69, hy70⟩
        have z71 : w58.heap.size ≤ w68.heap.size := hy70.size
        have HO72 := Lib.hid hx69
        clear hx69
        have HS73 := Lib.hid hy70
        clear hy70
        have HO74 := Lib.hid (HO64.out.below HS73.out (by omega))
        clear HO64
        have HO75 := Lib.hid (HO65.out.below HS73.out (by omega))
        clear HO65
        have HO76 := Lib.hid (HO66.out.below HS73.out (by omega))
        clear HO66
        have HO77 := Lib.hid (HO59.out.below HS73.out (by omega))
        clear HO59
        have HB78 : Hid (Below w.heap.size w w68) := Lib.hid (HB67.out.trans (HS73.out.mono (by omega)))
        clear HB67
        clear HS73
        go_wp2_with fail
        refine (L_eqTwinS _ _ _ _ _ _ HO72.out.rd HO74.out.rd (by omega) (by omega) HO72.out.small).mono ?_
        rintro e w79 ⟨rfl, hx80⟩
        have z81 : w68.heap.size ≤ w79.heap.size := hx80.size
        have HS82 := Lib.hid hx80
        clear hx80
        have HO83 := Lib.hid (HO74.out.below HS82.out (by omega))
        clear HO74
        have HO84 := Lib.hid (HO75.out.below HS82.out (by omega))
        clear HO75
        have HO85 := Lib.hid (HO76.out.below HS82.out (by omega))
        clear HO76
        have HO86 := Lib.hid (HO77.out.below HS82.out (by omega))
        clear HO77
        have HO87 := Lib.hid (HO72.out.below HS82.out (by omega))
        clear HO72
        have HB88 : Hid (Below w.heap.size w w79) := Lib.hid (HB78.out.trans (HS82.out.mono (by omega)))
        clear HB78
        clear HS82
        go_wp2_with fail
        refine (L_toIntS _ _ _ _ (RdIntS.below Ha_aKeys.out HB88.out) HB88.out.size hs_aKeys).mono ?_
        rintro e w90 ⟨v89, rfl, hx94, hy95⟩
        have z93 : w79.heap.size ≤ w90.heap.size := hy95.size
        have HO91 := Lib.hid hx94
        have HS92 := Lib.hid hy95
        clear hx94 hy95
        have HO96 := Lib.hid (HO83.out.below HS92.out (by omega))
        clear HO83
        have HO97 := Lib.hid (HO84.out.below HS92.out (by omega))
        clear HO84
        have HO98 := Lib.hid (HO85.out.below HS92.out (by omega))
        clear HO85
        have HO99 := Lib.hid (HO86.out.below HS92.out (by omega))
        clear HO86
        have HO100 := Lib.hid (HO87.out.below HS92.out (by omega))
        clear HO87
        have HB101 : Hid (Below w.heap.size w w90) := Lib.hid (HB88.out.trans (HS92.out.mono (by omega)))
        clear HB88
        clear HS92
        go_wp2_with fail
        refine (L_eqIntS _ _ _ _ _ _ HO97.out.rd HO91.out.rd (by omega) (by omega) HO97.out.small).mono ?_
        rintro e w102 ⟨rfl, hx103⟩
        have z104 : w90.heap.size ≤ w102.heap.size := hx103.size
        have HS105 := Lib.hid hx103
        clear hx103
        have HO106 := Lib.hid (HO96.out.below HS105.out (by omega))
        clear HO96
        have HO107 := Lib.hid (HO97.out.below HS105.out (by omega))
        clear HO97
        have HO108 := Lib.hid (HO98.out.below HS105.out (by omega))
        clear HO98
        have HO109 := Lib.hid (HO99.out.below HS105.out (by omega))
        clear HO99
        have HO110 := Lib.hid (HO100.out.below HS105.out (by omega))
        clear HO100
        have HO111 := Lib.hid (HO91.out.below HS105.out (by omega))
        clear HO91
        have HB112 : Hid (Below w.heap.size w w102) := Lib.hid (HB101.out.trans (HS105.out.mono (by omega)))
        clear HB101
        clear HS105
        clear HO111
        go_wp2_with fail
        refine (L_toIntS _ _ _ _ (RdIntS.below Ha_aMessage.out HB112.out) HB112.out.size hs_aMessage).mono ?_
        rintro e w114 ⟨v113, rfl, hx118, hy119⟩
        have z117 : w102.heap.size ≤ w114.heap.size := hy119.size
        have HO115 := Lib.hid hx118
        have HS116 := Lib.hid hy119
        clear hx118 hy119
        have HO120 := Lib.hid (HO106.out.below HS116.out (by omega))
        clear HO106
        have HO121 := Lib.hid (HO107.out.below HS116.out (by omega))
        clear HO107
        have HO122 := Lib.hid (HO108.out.below HS116.out (by omega))
        clear HO108
        have HO123 := Lib.hid (HO109.out.below HS116.out (by omega))
        clear HO109
        have HO124 := Lib.hid (HO110.out.below HS116.out (by omega))
        clear HO110
        have HB125 : Hid (Below w.heap.size w w114) := Lib.hid (HB112.out.trans (HS116.out.mono (by omega)))
        clear HB112
        clear HS116
        go_wp2_with fail
        refine (L_eqIntS _ _ _ _ _ _ HO122.out.rd HO115.out.rd (by omega) (by omega) HO122.out.small).mono ?_
        rintro e w126 ⟨rfl, hx127⟩
        have z128 : w114.heap.size ≤ w126.heap.size := hx127.size
        have HS129 := Lib.hid hx127
        clear hx127
        have HO130 := Lib.hid (HO120.out.below HS129.out (by omega))
        clear HO120
        have HO131 := Lib.hid (HO121.out.below HS129.out (by omega))
        clear HO121
        have HO132 := Lib.hid (HO122.out.below HS129.out (by omega))
        clear HO122
        have HO133 := Lib.hid (HO123.out.below HS129.out (by omega))
        clear HO123
        have HO134 := Lib.hid (HO124.out.below HS129.out (by omega))
        clear HO124
        have HO135 := Lib.hid (HO115.out.below HS129.out (by omega))
        clear HO115
        have HB136 : Hid (Below w.heap.size w w126) := Lib.hid (HB125.out.trans (HS129.out.mono (by omega)))
        clear HB125
        clear HS129
        clear HO135
        go_wp2_with fail
        refine (L_toIntS _ _ _ _ (RdIntS.below Ha_aTape.out HB136.out) HB136.out.size hs_aTape).mono ?_
        rintro e w138 ⟨v137, rfl, hx142, hy143⟩
        have z141 : w126.heap.size ≤ w138.heap.size := hy143.size
        have HO139 := Lib.hid hx142
        have HS140 := Lib.hid hy143
        clear hx142 hy143
        have HO144 := Lib.hid (HO130.out.below HS140.out (by omega))
        clear HO130
        have HO145 := Lib.hid (HO131.out.below HS140.out (by omega))
        clear HO131
        have HO146 := Lib.hid (HO132.out.below HS140.out (by omega))
        clear HO132
        have HO147 := Lib.hid (HO133.out.below HS140.out (by omega))
        clear HO133
        have HO148 := Lib.hid (HO134.out.below HS140.out (by omega))
        clear HO134
        have HB149 : Hid (Below w.heap.size w w138) := Lib.hid (HB136.out.trans (HS140.out.mono (by omega)))
        clear HB136
        clear HS140
        go_wp2_with fail
        refine (L_eqIntS _ _ _ _ _ _ HO147.out.rd HO139.out.rd (by omega) (by omega) HO147.out.small).mono ?_
        rintro e w150 ⟨rfl, hx151⟩
        have z152 : w138.heap.size ≤ w150.heap.size := hx151.size
        have HS153 := Lib.hid hx151
        clear hx151
        have HO154 := Lib.hid (HO144.out.below HS153.out (by omega))
        clear HO144
        have HO155 := Lib.hid (HO145.out.below HS153.out (by omega))
        clear HO145
        have HO156 := Lib.hid (HO146.out.below HS153.out (by omega))
        clear HO146
        have HO157 := Lib.hid (HO147.out.below HS153.out (by omega))
        clear HO147
        have HO158 := Lib.hid (HO148.out.below HS153.out (by omega))
        clear HO148
        have HO159 := Lib.hid (HO139.out.below HS153.out (by omega))
        clear HO139
        have HB160 : Hid (Below w.heap.size w w150) := Lib.hid (HB149.out.trans (HS153.out.mono (by omega)))
        clear HB149
        clear HS153
        clear HO159
        go_wp2_with fail
        refine (L_markIntS _ _ _ _ _ _ HO155.out (by omega) (by omega) (by omega)).mono ?_
        rintro e w161 ⟨K162, rfl, hk163, h0_164, h1_165, hx166, hy167⟩
        have z168 : w150.heap.size ≤ w161.heap.size := hy167.size
        have HO169 := Lib.hid hx166
        have HS170 := Lib.hid hy167
        clear hx166 hy167
        have HO171 := Lib.hid (HO154.out.kept HS170.out (by omega) (by omega))
        clear HO154
        have HO172 := Lib.hid (HO156.out.kept HS170.out (by omega) (by omega))
        clear HO156
        have HO173 := Lib.hid (HO157.out.kept HS170.out (by omega) (by omega))
        clear HO157
        have HO174 := Lib.hid (HO158.out.kept HS170.out (by omega) (by omega))
        clear HO158
        have HB175 : Hid (Below w.heap.size w w161) := Lib.hid (HB160.out.trans ((HS170.out.to_below (by omega)).mono (by omega)))
        clear HB160
        clear HS170 HO155
        go_wp2_with fail
        refine (L_markIntS _ _ _ _ _ _ HO172.out (by omega) (by omega) (by omega)).mono ?_
        rintro e w176 ⟨K177, rfl, hk178, h0_179, h1_180, hx181, hy182⟩
        have z183 : w161.heap.size ≤ w176.heap.size := hy182.size
        have HO184 := Lib.hid hx181
        have HS185 := Lib.hid hy182
        clear hx181 hy182
        have HO186 := Lib.hid (HO171.out.kept HS185.out (by omega) (by omega))
        clear HO171
        have HO187 := Lib.hid (HO169.out.kept HS185.out (by omega) (by omega))
        clear HO169
        have HO188 := Lib.hid (HO173.out.kept HS185.out (by omega) (by omega))
        clear HO173
        have HO189 := Lib.hid (HO174.out.kept HS185.out (by omega) (by omega))
        clear HO174
        have HB190 : Hid (Below w.heap.size w w176) := Lib.hid (HB175.out.trans ((HS185.out.to_below (by omega)).mono (by omega)))
        clear HB175
        clear HS185 HO172
        go_wp2_with fail
        refine (L_markIntS _ _ _ _ _ _ HO188.out (by omega) (by omega) (by omega)).mono ?_
        rintro e w191 ⟨K192, rfl, hk193, h0_194, h1_195, hx196, hy197⟩
        have z198 : w176.heap.size ≤ w191.heap.size := hy197.size
        have HO199 := Lib.hid hx196
        have HS200 := Lib.hid hy197
        clear hx196 hy197
        have HO201 := Lib.hid (HO186.out.kept HS200.out (by omega) (by omega))
        clear HO186
        have HO202 := Lib.hid (HO187.out.kept HS200.out (by omega) (by omega))
        clear HO187
        have HO203 := Lib.hid (HO184.out.kept HS200.out (by omega) (by omega))
        clear HO184
        have HO204 := Lib.hid (HO189.out.kept HS200.out (by omega) (by omega))
        clear HO189
        have HB205 : Hid (Below w.heap.size w w191) := Lib.hid (HB190.out.trans ((HS200.out.to_below (by omega)).mono (by omega)))
        clear HB190
        clear HS200 HO188
        clear HO202
        clear HO203
        clear HO199
        go_wp2_with fail
        refine (L_eqTwinS _ _ _ _ _ _ HO204.out.rd HO201.out.rd (by omega) (by omega) HO204.out.small).mono ?_
        rintro e w206 ⟨rfl, hx207⟩
        have z208 : w191.heap.size ≤ w206.heap.size := hx207.size
        have HS209 := Lib.hid hx207
        clear hx207
        have HO210 := Lib.hid (HO201.out.below HS209.out (by omega))
        clear HO201
        have HO211 := Lib.hid (HO204.out.below HS209.out (by omega))
        clear HO204
        have HB212 : Hid (Below w.heap.size w w206) := Lib.hid (HB205.out.trans (HS209.out.mono (by omega)))
        clear HB205
        clear HS209
        have hs213 := HO211.out.small
        go_wp2_with fail
        refine (L_markTwinS _ _ _ _ _ _ HO211.out (by omega) (by omega) (by omega)).mono ?_
        rintro e w214 ⟨K215, rfl, hk216, h0_217, h1_218, hx219, hy220⟩
        have z221 : w206.heap.size ≤ w214.heap.size := hy220.size
        have HO222 := Lib.hid hx219
        have HS223 := Lib.hid hy220
        clear hx219 hy220
        have HO224 := Lib.hid (HO210.out.kept HS223.out (by omega) (by omega))
        clear HO210
        have HB225 : Hid (Below w.heap.size w w214) := Lib.hid (HB212.out.trans ((HS223.out.to_below (by omega)).mono (by omega)))
        clear HB212
        clear HS223 HO211
        go_wp2_with fail
        refine (L_heldTwinS _ _ (R_LinkSign_1 d_aKeys aIndex aSecret d_aMessage d_aTape) 1 _ _ HO222.out.rd (by omega) hs213 (Lib.hid rfl) (by omega) (by omega)).mono ?_
        rintro e w226 ⟨K227, rfl, hk228, h0_229, h1_230, hx231⟩
        have z232 : w214.heap.size ≤ w226.heap.size := hx231.size
        have HS233 := Lib.hid hx231
        clear hx231
        have HE234 : Hid (K227 = K215) := Lib.hid (by rw [hk228.out, hk216.out])
        have hne235 : (K227 != K215) = false := by rw [HE234.out]; simp
        have HO236 := Lib.hid (HO224.out.below HS233.out (by omega))
        clear HO224
        have HO237 := Lib.hid (HO222.out.below HS233.out (by omega))
        clear HO222
        have HB238 : Hid (Below w.heap.size w w226) := Lib.hid (HB225.out.trans (HS233.out.mono (by omega)))
        clear HB225
        clear HS233
        go_wp2_with fail
        refine (L_toIntS _ _ _ _ (RdIntS.below Ha_aKeys.out HB238.out) HB238.out.size hs_aKeys).mono ?_
        rintro e w240 ⟨v239, rfl, hx244, hy245⟩
        have z243 : w226.heap.size ≤ w240.heap.size := hy245.size
        have HO241 := Lib.hid hx244
        have HS242 := Lib.hid hy245
        clear hx244 hy245
        have HO246 := Lib.hid (HO236.out.below HS242.out (by omega))
        clear HO236
        have HO247 := Lib.hid (HO237.out.below HS242.out (by omega))
        clear HO237
        have HB248 : Hid (Below w.heap.size w w240) := Lib.hid (HB238.out.trans (HS242.out.mono (by omega)))
        clear HB238
        clear HS242
        go_wp2_with fail
        refine (L_toIntS _ _ _ _ (RdIntS.below Ha_aMessage.out HB248.out) HB248.out.size hs_aMessage).mono ?_
        rintro e w250 ⟨v249, rfl, hx254, hy255⟩
        have z253 : w240.heap.size ≤ w250.heap.size := hy255.size
        have HO251 := Lib.hid hx254
        have HS252 := Lib.hid hy255
        clear hx254 hy255
        have HO256 := Lib.hid (HO246.out.below HS252.out (by omega))
        clear HO246
        have HO257 := Lib.hid (HO247.out.below HS252.out (by omega))
        clear HO247
        have HO258 := Lib.hid (HO241.out.below HS252.out (by omega))
        clear HO241
        have HB259 : Hid (Below w.heap.size w w250) := Lib.hid (HB248.out.trans (HS252.out.mono (by omega)))
        clear HB248
        clear HS252
        go_wp2_with fail
        refine (L_toIntS _ _ _ _ (RdIntS.below Ha_aTape.out HB259.out) HB259.out.size hs_aTape).mono ?_
        rintro e w261 ⟨v260, rfl, hx265, hy266⟩
        have z264 : w250.heap.size ≤ w261.heap.size := hy266.size
        have HO262 := Lib.hid hx265
        have HS263 := Lib.hid hy266
        clear hx265 hy266
        have HO267 := Lib.hid (HO256.out.below HS263.out (by omega))
        clear HO256
        have HO268 := Lib.hid (HO257.out.below HS263.out (by omega))
        clear HO257
        have HO269 := Lib.hid (HO258.out.below HS263.out (by omega))
        clear HO258
        have HO270 := Lib.hid (HO251.out.below HS263.out (by omega))
        clear HO251
        have HB271 : Hid (Below w.heap.size w w261) := Lib.hid (HB259.out.trans (HS263.out.mono (by omega)))
        clear HB259
        clear HS263
        go_wp2_with fail
        refine (X_i_LinkSign _ _ _ d_aKeys aIndex aSecret d_aMessage d_aTape _ (HO269.out.rd.more (by omega)) (HO270.out.rd.more (by omega)) (HO262.out.rd.more (by omega)) hs_aKeys hs_aMessage hs_aTape).mono ?_
        rintro e w272 ⟨h1_w272, rfl, hx273, hy274⟩
        have z275 : w261.heap.size ≤ w272.heap.size := hy274.size
        have HO276 := Lib.hid hx273
        clear hx273
        have HS277 := Lib.hid hy274
        clear hy274
        have HO278 := Lib.hid (HO267.out.below HS277.out (by omega))
        clear HO267
        have HO279 := Lib.hid (HO268.out.below HS277.out (by omega))
        clear HO268
        have HO280 := Lib.hid (HO269.out.below HS277.out (by omega))
        clear HO269
        have HO281 := Lib.hid (HO270.out.below HS277.out (by omega))
        clear HO270
        have HO282 := Lib.hid (HO262.out.below HS277.out (by omega))
        clear HO262
        have HB283 : Hid (Below w.heap.size w w272) := Lib.hid (HB271.out.trans (HS277.out.mono (by omega)))
        clear HB271
        clear HS277
        clear HO280
        clear HO281
        clear HO282
        go_wp2_with fail
        refine (L_eqTwinS _ _ _ _ _ _ HO276.out.rd HO278.out.rd (by omega) (by omega) HO276.out.small).mono ?_
        rintro e w284 ⟨rfl, hx285⟩
        have z286 : w272.heap.size ≤ w284.heap.size := hx285.size
        have HS287 := Lib.hid hx285
        clear hx285
        have HO288 := Lib.hid (HO278.out.below HS287.out (by omega))
        clear HO278
        have HO289 := Lib.hid (HO279.out.below HS287.out (by omega))
        clear HO279
        have HO290 := Lib.hid (HO276.out.below HS287.out (by omega))
        clear HO276
        have HB291 : Hid (Below w.heap.size w w284) := Lib.hid (HB283.out.trans (HS287.out.mono (by omega)))
        clear HB283
        clear HS287
        go_wp2_with fail
        refine (L_heldTwinS _ _ (R_LinkSign_1 d_aKeys aIndex aSecret d_aMessage d_aTape) 1 _ _ HO289.out.rd (by omega) hs213 (Lib.hid rfl) (by omega) (by omega)).mono ?_
        rintro e w292 ⟨K293, rfl, hk294, h0_295, h1_296, hx297⟩
        have z298 : w284.heap.size ≤ w292.heap.size := hx297.size
        have HS299 := Lib.hid hx297
        clear hx297
        have HE300 : Hid (K293 = K215) := Lib.hid (by rw [hk294.out, hk216.out])
        have hne301 : (K293 != K215) = false := by rw [HE300.out]; simp
        have HO302 := Lib.hid (HO288.out.below HS299.out (by omega))
        clear HO288
        have HO303 := Lib.hid (HO289.out.below HS299.out (by omega))
        clear HO289
        have HO304 := Lib.hid (HO290.out.below HS299.out (by omega))
        clear HO290
        have HB305 : Hid (Below w.heap.size w w292) := Lib.hid (HB291.out.trans (HS299.out.mono (by omega)))
        clear HB291
        clear HS299
        go_wp2
        go_ret
        exact ⟨rfl, HB305.out⟩
      · have hn_aTape : ¬ n_aTape ≤ 1048576 := by have := h_aTape.len; unfold szIntS at hs_aTape; omega
        go_enter Try.func5, Try.ntmps5
        go_wp2
        go_ret
        exact ⟨rfl, by first | exact Below.refl _ _ | exact (Below.refl _ _).alloc (Nat.le_refl _) _ | exact ((Below.refl _ _).alloc (Nat.le_refl _) _).alloc (by simp) _⟩
    · have hn_aMessage : ¬ n_aMessage ≤ 1048576 := by have := h_aMessage.len; unfold szIntS at hs_aMessage; omega
      go_enter Try.func5, Try.ntmps5
      go_wp2
      go_ret
      exact ⟨rfl, by first | exact Below.refl _ _ | exact (Below.refl _ _).alloc (Nat.le_refl _) _ | exact ((Below.refl _ _).alloc (Nat.le_refl _) _).alloc (by simp) _⟩
  · have hn_aKeys : ¬ n_aKeys ≤ 1048576 := by have := h_aKeys.len; unfold szIntS at hs_aKeys; omega
    go_enter Try.func5, Try.ntmps5
    go_wp2
    go_ret
    exact ⟨rfl, by first | exact Below.refl _ _ | exact (Below.refl _ _).alloc (Nat.le_refl _) _ | exact ((Below.refl _ _).alloc (Nat.le_refl _) _).alloc (by simp) _⟩

set_option maxRecDepth 100000 in
theorem lifted (os : Os) (started : os.Started) (H : Type) (enc : TypeId × Value → H) :
    ReturnsInHanded {} Try.checked os 5 .any (Rows.fnExactLinkSignSpec.pre6 enc Try.prog Try.f5 Rows.fnExactLinkSignRow.domain false) (Rows.fnExactLinkSignSpec.post enc Try.prog Try.f5 false true false false) := by
  refine returnsInHanded_of_change (C := Try.checked) own started (by kernel_rfl) Try.func5
    (ChangeSpec.witness6 (enc := enc) (C := Try.checked) false ⟨#[], #[.slice none 0 0, .int .i64 0, .int .i64 0, .slice none 0 0, .slice none 0 0], []⟩ 8 (by kernel_rfl) (by kernel_rfl) (by kernel_rfl) (by kernel_rfl)) ?_
  intro W base args ds gs before hval0 hW hcnd _
  have hval : ∀ (j : Nat) t v, Try.f5.params[j]? = some t → args[j]? = some v → Value.okWide Try.prog W .any base t v := hval0
  have hW' := hW
  obtain ⟨p, q, hA0, hV, rfl, hfz, hnd⟩ := hW
  have hA : DataW.TrodAll enc Try.prog W 0 (fun _ => true) true Try.f5.params.toList args.toList ds p := hA0
  rw [Try.params5] at hA hval
  obtain ⟨v0, vs0, dd0, ds0, p0, q0, hargs, rfl, rfl, h0, r0⟩ := trodAll_cons hA
  obtain ⟨v1, vs1, dd1, ds1, p1, q1, rfl, rfl, rfl, h1, r1⟩ := trodAll_cons r0
  obtain ⟨v2, vs2, dd2, ds2, p2, q2, rfl, rfl, rfl, h2, r2⟩ := trodAll_cons r1
  obtain ⟨v3, vs3, dd3, ds3, p3, q3, rfl, rfl, rfl, h3, r3⟩ := trodAll_cons r2
  obtain ⟨v4, vs4, dd4, ds4, p4, q4, rfl, rfl, rfl, h4, r4⟩ := trodAll_cons r3
  obtain ⟨rfl, rfl, rfl⟩ := trodAll_nil r4
  obtain rfl : args = #[v0, v1, v2, v3, v4] := by cases args; simp_all
  obtain ⟨rfl, rfl⟩ := trodVars_none hV
  obtain ⟨A_aKeys, n_aKeys, c_aKeys, d_aKeys, rfl, hm_aKeys, h_aKeys⟩ := open_intS Try.underlying22 Try.underlying3 (by kernel_rfl) (hval 0 22 v0 rfl rfl) h0
  obtain ⟨aIndex, rfl, rfl, rfl, w_aIndex⟩ := open_int Try.underlying3 (hval 1 3 v1 rfl rfl) h1
  obtain ⟨aSecret, rfl, rfl, rfl, w_aSecret⟩ := open_int Try.underlying3 (hval 2 3 v2 rfl rfl) h2
  obtain ⟨A_aMessage, n_aMessage, c_aMessage, d_aMessage, rfl, hm_aMessage, h_aMessage⟩ := open_intS Try.underlying22 Try.underlying3 (by kernel_rfl) (hval 3 22 v3 rfl rfl) h3
  obtain ⟨A_aTape, n_aTape, c_aTape, d_aTape, rfl, hm_aTape, h_aTape⟩ := open_intS Try.underlying22 Try.underlying3 (by kernel_rfl) (hval 4 22 v4 rfl rfl) h4
  refine (walk A_aKeys n_aKeys c_aKeys d_aKeys aIndex aSecret A_aMessage n_aMessage c_aMessage d_aMessage A_aTape n_aTape c_aTape d_aTape W hm_aKeys h_aKeys w_aIndex w_aSecret hm_aMessage h_aMessage hm_aTape h_aTape).mono fun e W' ⟨he, hb⟩ => ?_
  subst he
  exact ⟨_, rfl, post_law rfl rfl Try.underlying4 (by kernel_rfl) (by kernel_rfl) hW' rfl hb⟩

theorem closed : joinedFacts Try.prog 5 Try.f5 Rows.fnExactLinkSignSpec Rows.fnExactLinkSignRow = true := joined_of (by kernel_rfl)
theorem over : Rows.fnExactLinkSignRow.holds Try.pinned (OpenSpec.ofChange Rows.fnExactLinkSignSpec) :=
  OpenClaim.holds_of_wide 5 Try.f5 rfl rfl rfl rfl rfl rfl rfl ⟨rfl, rfl, rfl, rfl, rfl⟩ rfl rfl rfl rfl rfl (by kernel_rfl) Try.func5 closed
    (of_decide_eq_true (by kernel_rfl)) (by unfold Func.isWrapper; first | (rw [if_pos (by decide +kernel)]; kernel_rfl) | (rw [if_neg (by decide +kernel)]; exact ⟨rfl, rfl⟩))
    (fun os started H enc _ => lifted os started H enc)
/-- the statement -/
theorem proved : Rows.FnExactLinkSignSaid :=
  over
end Go.Proofs.Ytdhakbpimbadgaa.fnExactLinkSign
