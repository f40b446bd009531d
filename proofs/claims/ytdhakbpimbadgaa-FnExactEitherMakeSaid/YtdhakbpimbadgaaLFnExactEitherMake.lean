/- FnExactEitherMake answers true at every input: at each argument the function and its model answer alike, no argument is written, and the answer owns its memory. No condition. -/
import Derived.Test.YtdhakbpimbadgaaRows
import Derived.Test.YtdhakbpimbadgaaLaw
import Derived.Test.YtdhakbpimbadgaaDoor
import Derived.Test.YtdhakbpimbadgaaWalk15j
import Derived.Test.YtdhakbpimbadgaaOpenP
import Derived.Test.YtdhakbpimbadgaaFaceI
namespace Go.Proofs.Ytdhakbpimbadgaa.fnExactEitherMake
open Go.ChangeShapes Go.WideShapes Go.ChangeAt Go.RowKit
theorem own : ownKnob Try.prog.godebug = none := by kernel_rfl
set_option maxRecDepth 100000 in
set_option maxHeartbeats 4000000 in
theorem walk (A_aKeys : Option Addr) (n_aKeys c_aKeys : Nat) (d_aKeys : List Int) (aIndex : Int) (aSecret : Int) (aChal : Int) (A_aTape : Option Addr) (n_aTape c_aTape : Nat) (d_aTape : List Int) (w : World) (hm_aKeys : n_aKeys ≤ 9223372036854775807) (h_aKeys : Rd w w.heap.size 1 A_aKeys n_aKeys (cI d_aKeys)) (_w_aIndex : (Lit.int .i64 aIndex).wf = true) (_w_aSecret : (Lit.int .i64 aSecret).wf = true) (_w_aChal : (Lit.int .i64 aChal).wf = true) (hm_aTape : n_aTape ≤ 9223372036854775807) (h_aTape : Rd w w.heap.size 1 A_aTape n_aTape (cI d_aTape)) :
    Calls Try.prog 3 #[.slice A_aKeys n_aKeys c_aKeys, .int .i64 aIndex, .int .i64 aSecret, .int .i64 aChal, .slice A_aTape n_aTape c_aTape] w fun e w' => e = .returned (.bool true) ∧ Below w.heap.size w w' := by
  by_cases hs_aKeys : szIntS d_aKeys ≤ 1048576
  · have hn_aKeys : n_aKeys ≤ 1048576 := by have := h_aKeys.len; unfold szIntS at hs_aKeys; omega
    by_cases hs_aTape : szIntS d_aTape ≤ 1048576
    · have hn_aTape : n_aTape ≤ 1048576 := by have := h_aTape.len; unfold szIntS at hs_aTape; omega
      have Ha_aKeys : Hid (RdIntS w w.heap.size (.slice A_aKeys n_aKeys c_aKeys) d_aKeys) := Lib.hid (⟨A_aKeys, n_aKeys, c_aKeys, rfl, hm_aKeys, h_aKeys⟩)
      have Ha_aTape : Hid (RdIntS w w.heap.size (.slice A_aTape n_aTape c_aTape) d_aTape) := Lib.hid (⟨A_aTape, n_aTape, c_aTape, rfl, hm_aTape, h_aTape⟩)
      clear h_aKeys h_aTape
      go_enter Try.func3, Try.ntmps3
      go_wp2_with fail
      refine (L_toIntS _ _ _ _ Ha_aKeys.out (Nat.le_refl _) hs_aKeys).mono ?_
      rintro e w2 ⟨v1, rfl, hx6, hy7⟩
      have z5 : w.heap.size ≤ w2.heap.size := hy7.size
      have HO3 := Lib.hid hx6
      have HS4 := Lib.hid hy7
      clear hx6 hy7
      have HB8 : Hid (Below w.heap.size w w2) := Lib.hid (HS4.out.mono (by omega))
      clear HS4
      go_wp2_with fail
      refine (L_toIntS _ _ _ _ (RdIntS.below Ha_aTape.out HB8.out) HB8.out.size hs_aTape).mono ?_
      rintro e w10 ⟨v9, rfl, hx14, hy15⟩
      have z13 : w2.heap.size ≤ w10.heap.size := hy15.size
      have HO11 := Lib.hid hx14
      have HS12 := Lib.hid hy15
      clear hx14 hy15
      have HO16 := Lib.hid (HO3.out.below HS12.out (by omega))
      clear HO3
      have HB17 : Hid (Below w.heap.size w w10) := Lib.hid (HB8.out.trans (HS12.out.mono (by omega)))
      clear HB8
      clear HS12
      go_wp2_with fail
      refine (X_s_EitherMake _ _ d_aKeys aIndex aSecret aChal d_aTape _ (HO16.out.rd.more (by omega)) (HO11.out.rd.more (by omega)) hs_aKeys hs_aTape).mono ?_
      rintro e w18 ⟨w0_w18, rfl, hx19, hy20⟩
      have z21 : w10.heap.size ≤ w18.heap.size := hy20.size
      have HO22 := Lib.hid hx19
      clear hx19
      have HS23 := Lib.hid hy20
      clear hy20
      have HO24 := Lib.hid (HO16.out.below HS23.out (by omega))
      clear HO16
      have HO25 := Lib.hid (HO11.out.below HS23.out (by omega))
      clear HO11
      have HB26 : Hid (Below w.heap.size w w18) := Lib.hid (HB17.out.trans (HS23.out.mono (by omega)))
      clear HB17
      clear HS23
      clear HO24
      clear HO25
      go_wp2_with fail
      refine (L_toIntS _ _ _ _ (RdIntS.below Ha_aKeys.out HB26.out) HB26.out.size hs_aKeys).mono ?_
      rintro e w28 ⟨v27, rfl, hx32, hy33⟩
      have z31 : w18.heap.size ≤ w28.heap.size := hy33.size
      have HO29 := Lib.hid hx32
      have HS30 := Lib.hid hy33
      clear hx32 hy33
      have HO34 := Lib.hid (HO22.out.below HS30.out (by omega))
      clear HO22
      have HB35 : Hid (Below w.heap.size w w28) := Lib.hid (HB26.out.trans (HS30.out.mono (by omega)))
      clear HB26
      clear HS30
      go_wp2_with fail
      refine (L_toIntS _ _ _ _ (RdIntS.below Ha_aTape.out HB35.out) HB35.out.size hs_aTape).mono ?_
      rintro e w37 ⟨v36, rfl, hx41, hy42⟩
      have z40 : w28.heap.size ≤ w37.heap.size := hy42.size
      have HO38 := Lib.hid hx41
      have HS39 := Lib.hid hy42
      clear hx41 hy42
      have HO43 := Lib.hid (HO34.out.below HS39.out (by omega))
      clear HO34
      have HO44 := Lib.hid (HO29.out.below HS39.out (by omega))
      clear HO29
      have HB45 : Hid (Below w.heap.size w w37) := Lib.hid (HB35.out.trans (HS39.out.mono (by omega)))
      clear HB35
      clear HS39
      go_wp2_with fail
      refine (X_i_EitherMake _ _ d_aKeys aIndex aSecret aChal d_aTape _ (HO44.out.rd.more (by omega)) (HO38.out.rd.more (by omega)) hs_aKeys hs_aTape).mono ?_
      rintro e w46 ⟨g0_w46, rfl, hx47, hy48⟩
      have z49 : w37.heap.size ≤ w46.heap.size := hy48.size
      have HO50 := Lib.hid hx47
      clear hx47
      have HS51 := Lib.hid hy48
      clear hy48
      have HO52 := Lib.hid (HO43.out.below HS51.out (by omega))
      clear HO43
      have HO53 := Lib.hid (HO44.out.below HS51.out (by omega))
      clear HO44
      have HO54 := Lib.hid (HO38.out.below HS51.out (by omega))
      clear HO38
      have HB55 : Hid (Below w.heap.size w w46) := Lib.hid (HB45.out.trans (HS51.out.mono (by omega)))
      clear HB45
      clear HS51
      go_wp2_with fail
      refine (L_eqProofS _ _ _ _ _ _ HO50.out.rd HO52.out.rd (by omega) (by omega) HO50.out.small).mono ?_
      rintro e w56 ⟨rfl, hx57⟩
      have z58 : w46.heap.size ≤ w56.heap.size := hx57.size
      have HS59 := Lib.hid hx57
      clear hx57
      have HO60 := Lib.hid (HO52.out.below HS59.out (by omega))
      clear HO52
      have HO61 := Lib.hid (HO53.out.below HS59.out (by omega))
      clear HO53
      have HO62 := Lib.hid (HO54.out.below HS59.out (by omega))
      clear HO54
      have HO63 := Lib.hid (HO50.out.below HS59.out (by omega))
      clear HO50
      have HB64 : Hid (Below w.heap.size w w56) := Lib.hid (HB55.out.trans (HS59.out.mono (by omega)))
      clear HB55
      clear HS59
      go_wp2_with fail
      refine (L_toIntS _ _ _ _ (RdIntS.below Ha_aKeys.out HB64.out) HB64.out.size hs_aKeys).mono ?_
      rintro e w66 ⟨v65, rfl, hx70, hy71⟩
      have z69 : w56.heap.size ≤ w66.heap.size := hy71.size
      have HO67 := Lib.hid hx70
      have HS68 := Lib.hid hy71
      clear hx70 hy71
      have HO72 := Lib.hid (HO60.out.below HS68.out (by omega))
      clear HO60
      have HO73 := Lib.hid (HO61.out.below HS68.out (by omega))
      clear HO61
      have HO74 := Lib.hid (HO62.out.below HS68.out (by omega))
      clear HO62
      have HO75 := Lib.hid (HO63.out.below HS68.out (by omega))
      clear HO63
      have HB76 : Hid (Below w.heap.size w w66) := Lib.hid (HB64.out.trans (HS68.out.mono (by omega)))
      clear HB64
      clear HS68
      go_wp2_with fail
      refine (L_eqIntS _ _ _ _ _ _ HO73.out.rd HO67.out.rd (by omega) (by omega) HO73.out.small).mono ?_
      rintro e w77 ⟨rfl, hx78⟩
      have z79 : w66.heap.size ≤ w77.heap.size := hx78.size
      have HS80 := Lib.hid hx78
      clear hx78
      have HO81 := Lib.hid (HO72.out.below HS80.out (by omega))
      clear HO72
      have HO82 := Lib.hid (HO73.out.below HS80.out (by omega))
      clear HO73
      have HO83 := Lib.hid (HO74.out.below HS80.out (by omega))
      clear HO74
      have HO84 := Lib.hid (HO75.out.below HS80.out (by omega))
      clear HO75
      have HO85 := Lib.hid (HO67.out.below HS80.out (by omega))
      clear HO67
      have HB86 : Hid (Below w.heap.size w w77) := Lib.hid (HB76.out.trans (HS80.out.mono (by omega)))
      clear HB76
      clear HS80
      clear HO85
      go_wp2_with fail
      refine (L_toIntS _ _ _ _ (RdIntS.below Ha_aTape.out HB86.out) HB86.out.size hs_aTape).mono ?_
      rintro e w88 ⟨v87, rfl, hx92, hy93⟩
      have z91 : w77.heap.size ≤ w88.heap.size := hy93.size
      have HO89 := Lib.hid hx92
      have HS90 := Lib.hid hy93
      clear hx92 hy93
      have HO94 := Lib.hid (HO81.out.below HS90.out (by omega))
      clear HO81
      have HO95 := Lib.hid (HO82.out.below HS90.out (by omega))
      clear HO82
      have HO96 := Lib.hid (HO83.out.below HS90.out (by omega))
      clear HO83
      have HO97 := Lib.hid (HO84.out.below HS90.out (by omega))
      clear HO84
      have HB98 : Hid (Below w.heap.size w w88) := Lib.hid (HB86.out.trans (HS90.out.mono (by omega)))
      clear HB86
      clear HS90
      go_wp2_with fail
      refine (L_eqIntS _ _ _ _ _ _ HO96.out.rd HO89.out.rd (by omega) (by omega) HO96.out.small).mono ?_
      rintro e w99 ⟨rfl, hx100⟩
      have z101 : w88.heap.size ≤ w99.heap.size := hx100.size
      have HS102 := Lib.hid hx100
      clear hx100
      have HO103 := Lib.hid (HO94.out.below HS102.out (by omega))
      clear HO94
      have HO104 := Lib.hid (HO95.out.below HS102.out (by omega))
      clear HO95
      have HO105 := Lib.hid (HO96.out.below HS102.out (by omega))
      clear HO96
      have HO106 := Lib.hid (HO97.out.below HS102.out (by omega))
      clear HO97
      have HO107 := Lib.hid (HO89.out.below HS102.out (by omega))
      clear HO89
      have HB108 : Hid (Below w.heap.size w w99) := Lib.hid (HB98.out.trans (HS102.out.mono (by omega)))
      clear HB98
      clear HS102
      clear HO107
      go_wp2_with fail
      refine (L_markIntS _ _ _ _ _ _ HO104.out (by omega) (by omega) (by omega)).mono ?_
      rintro e w109 ⟨K110, rfl, hk111, h0_112, h1_113, hx114, hy115⟩
      have z116 : w99.heap.size ≤ w109.heap.size := hy115.size
      have HO117 := Lib.hid hx114
      have HS118 := Lib.hid hy115
      clear hx114 hy115
      have HO119 := Lib.hid (HO103.out.kept HS118.out (by omega) (by omega))
      clear HO103
      have HO120 := Lib.hid (HO105.out.kept HS118.out (by omega) (by omega))
      clear HO105
      have HO121 := Lib.hid (HO106.out.kept HS118.out (by omega) (by omega))
      clear HO106
      have HB122 : Hid (Below w.heap.size w w109) := Lib.hid (HB108.out.trans ((HS118.out.to_below (by omega)).mono (by omega)))
      clear HB108
      clear HS118 HO104
      go_wp2_with fail
      refine (L_markIntS _ _ _ _ _ _ HO120.out (by omega) (by omega) (by omega)).mono ?_
      rintro e w123 ⟨K124, rfl, hk125, h0_126, h1_127, hx128, hy129⟩
      have z130 : w109.heap.size ≤ w123.heap.size := hy129.size
      have HO131 := Lib.hid hx128
      have HS132 := Lib.hid hy129
      clear hx128 hy129
      have HO133 := Lib.hid (HO119.out.kept HS132.out (by omega) (by omega))
      clear HO119
      have HO134 := Lib.hid (HO117.out.kept HS132.out (by omega) (by omega))
      clear HO117
      have HO135 := Lib.hid (HO121.out.kept HS132.out (by omega) (by omega))
      clear HO121
      have HB136 : Hid (Below w.heap.size w w123) := Lib.hid (HB122.out.trans ((HS132.out.to_below (by omega)).mono (by omega)))
      clear HB122
      clear HS132 HO120
      clear HO134
      clear HO131
      go_wp2_with fail
      refine (L_eqProofS _ _ _ _ _ _ HO135.out.rd HO133.out.rd (by omega) (by omega) HO135.out.small).mono ?_
      rintro e w137 ⟨rfl, hx138⟩
      have z139 : w123.heap.size ≤ w137.heap.size := hx138.size
      have HS140 := Lib.hid hx138
      clear hx138
      have HO141 := Lib.hid (HO133.out.below HS140.out (by omega))
      clear HO133
      have HO142 := Lib.hid (HO135.out.below HS140.out (by omega))
      clear HO135
      have HB143 : Hid (Below w.heap.size w w137) := Lib.hid (HB136.out.trans (HS140.out.mono (by omega)))
      clear HB136
      clear HS140
      have hs144 := HO142.out.small
      go_wp2_with fail
      refine (L_markProofS _ _ _ _ _ _ HO142.out (by omega) (by omega) (by omega)).mono ?_
      rintro e w145 ⟨K146, rfl, hk147, h0_148, h1_149, hx150, hy151⟩
      have z152 : w137.heap.size ≤ w145.heap.size := hy151.size
      have HO153 := Lib.hid hx150
      have HS154 := Lib.hid hy151
      clear hx150 hy151
      have HO155 := Lib.hid (HO141.out.kept HS154.out (by omega) (by omega))
      clear HO141
      have HB156 : Hid (Below w.heap.size w w145) := Lib.hid (HB143.out.trans ((HS154.out.to_below (by omega)).mono (by omega)))
      clear HB143
      clear HS154 HO142
      go_wp2_with fail
      refine (L_heldProofS _ _ (R_EitherMake_0 d_aKeys aIndex aSecret aChal d_aTape) 1 _ _ HO153.out.rd (by omega) hs144 (Lib.hid rfl) (by omega) (by omega)).mono ?_
      rintro e w157 ⟨K158, rfl, hk159, h0_160, h1_161, hx162⟩
      have z163 : w145.heap.size ≤ w157.heap.size := hx162.size
      have HS164 := Lib.hid hx162
      clear hx162
      have HE165 : Hid (K158 = K146) := Lib.hid (by rw [hk159.out, hk147.out])
      have hne166 : (K158 != K146) = false := by rw [HE165.out]; simp
      have HO167 := Lib.hid (HO155.out.below HS164.out (by omega))
      clear HO155
      have HO168 := Lib.hid (HO153.out.below HS164.out (by omega))
      clear HO153
      have HB169 : Hid (Below w.heap.size w w157) := Lib.hid (HB156.out.trans (HS164.out.mono (by omega)))
      clear HB156
      clear HS164
      go_wp2_with fail
      refine (L_toIntS _ _ _ _ (RdIntS.below Ha_aKeys.out HB169.out) HB169.out.size hs_aKeys).mono ?_
      rintro e w171 ⟨v170, rfl, hx175, hy176⟩
      have z174 : w157.heap.size ≤ w171.heap.size := hy176.size
      have HO172 := Lib.hid hx175
      have HS173 := Lib.hid hy176
      clear hx175 hy176
      have HO177 := Lib.hid (HO167.out.below HS173.out (by omega))
      clear HO167
      have HO178 := Lib.hid (HO168.out.below HS173.out (by omega))
      clear HO168
      have HB179 : Hid (Below w.heap.size w w171) := Lib.hid (HB169.out.trans (HS173.out.mono (by omega)))
      clear HB169
      clear HS173
      go_wp2_with fail
      refine (L_toIntS _ _ _ _ (RdIntS.below Ha_aTape.out HB179.out) HB179.out.size hs_aTape).mono ?_
      rintro e w181 ⟨v180, rfl, hx185, hy186⟩
      have z184 : w171.heap.size ≤ w181.heap.size := hy186.size
      have HO182 := Lib.hid hx185
      have HS183 := Lib.hid hy186
      clear hx185 hy186
      have HO187 := Lib.hid (HO177.out.below HS183.out (by omega))
      clear HO177
      have HO188 := Lib.hid (HO178.out.below HS183.out (by omega))
      clear HO178
      have HO189 := Lib.hid (HO172.out.below HS183.out (by omega))
      clear HO172
      have HB190 : Hid (Below w.heap.size w w181) := Lib.hid (HB179.out.trans (HS183.out.mono (by omega)))
      clear HB179
      clear HS183
      go_wp2_with fail
      refine (X_i_EitherMake _ _ d_aKeys aIndex aSecret aChal d_aTape _ (HO189.out.rd.more (by omega)) (HO182.out.rd.more (by omega)) hs_aKeys hs_aTape).mono ?_
      rintro e w191 ⟨h0_w191, rfl, hx192, hy193⟩
      have z194 : w181.heap.size ≤ w191.heap.size := hy193.size
      have HO195 := Lib.hid hx192
      clear hx192
      have HS196 := Lib.hid hy193
      clear hy193
      have HO197 := Lib.hid (HO187.out.below HS196.out (by omega))
      clear HO187
      have HO198 := Lib.hid (HO188.out.below HS196.out (by omega))
      clear HO188
      have HO199 := Lib.hid (HO189.out.below HS196.out (by omega))
      clear HO189
      have HO200 := Lib.hid (HO182.out.below HS196.out (by omega))
      clear HO182
      have HB201 : Hid (Below w.heap.size w w191) := Lib.hid (HB190.out.trans (HS196.out.mono (by omega)))
      clear HB190
      clear HS196
      clear HO199
      clear HO200
      go_wp2_with fail
      refine (L_eqProofS _ _ _ _ _ _ HO195.out.rd HO197.out.rd (by omega) (by omega) HO195.out.small).mono ?_
      rintro e w202 ⟨rfl, hx203⟩
      have z204 : w191.heap.size ≤ w202.heap.size := hx203.size
      have HS205 := Lib.hid hx203
      clear hx203
      have HO206 := Lib.hid (HO197.out.below HS205.out (by omega))
      clear HO197
      have HO207 := Lib.hid (HO198.out.below HS205.out (by omega))
      clear HO198
      have HO208 := Lib.hid (HO195.out.below HS205.out (by omega))
      clear HO195
      have HB209 : Hid (Below w.heap.size w w202) := Lib.hid (HB201.out.trans (HS205.out.mono (by omega)))
      clear HB201
      clear HS205
      go_wp2_with fail
      refine (L_heldProofS _ _ (R_EitherMake_0 d_aKeys aIndex aSecret aChal d_aTape) 1 _ _ HO207.out.rd (by omega) hs144 (Lib.hid rfl) (by omega) (by omega)).mono ?_
      rintro e w210 ⟨K211, rfl, hk212, h0_213, h1_214, hx215⟩
      have z216 : w202.heap.size ≤ w210.heap.size := hx215.size
      have HS217 := Lib.hid hx215
      clear hx215
      have HE218 : Hid (K211 = K146) := Lib.hid (by rw [hk212.out, hk147.out])
      have hne219 : (K211 != K146) = false := by rw [HE218.out]; simp
      have HO220 := Lib.hid (HO206.out.below HS217.out (by omega))
      clear HO206
      have HO221 := Lib.hid (HO207.out.below HS217.out (by omega))
      clear HO207
      have HO222 := Lib.hid (HO208.out.below HS217.out (by omega))
      clear HO208
      have HB223 : Hid (Below w.heap.size w w210) := Lib.hid (HB209.out.trans (HS217.out.mono (by omega)))
      clear HB209
      clear HS217
      go_wp2
      go_ret
      exact ⟨rfl, HB223.out⟩
    · have hn_aTape : ¬ n_aTape ≤ 1048576 := by have := h_aTape.len; unfold szIntS at hs_aTape; omega
      go_enter Try.func3, Try.ntmps3
      go_wp2
      go_ret
      exact ⟨rfl, by first | exact Below.refl _ _ | exact (Below.refl _ _).alloc (Nat.le_refl _) _ | exact ((Below.refl _ _).alloc (Nat.le_refl _) _).alloc (by simp) _⟩
  · have hn_aKeys : ¬ n_aKeys ≤ 1048576 := by have := h_aKeys.len; unfold szIntS at hs_aKeys; omega
    go_enter Try.func3, Try.ntmps3
    go_wp2
    go_ret
    exact ⟨rfl, by first | exact Below.refl _ _ | exact (Below.refl _ _).alloc (Nat.le_refl _) _ | exact ((Below.refl _ _).alloc (Nat.le_refl _) _).alloc (by simp) _⟩

set_option maxRecDepth 100000 in
theorem lifted (os : Os) (started : os.Started) (H : Type) (enc : TypeId × Value → H) :
    ReturnsInHanded {} Try.checked os 3 .any (Rows.fnExactEitherMakeSpec.pre6 enc Try.prog Try.f3 Rows.fnExactEitherMakeRow.domain false) (Rows.fnExactEitherMakeSpec.post enc Try.prog Try.f3 false true false false) := by
  refine returnsInHanded_of_change (C := Try.checked) own started (by kernel_rfl) Try.func3
    (ChangeSpec.witness6 (enc := enc) (C := Try.checked) false ⟨#[], #[.slice none 0 0, .int .i64 0, .int .i64 0, .int .i64 0, .slice none 0 0], []⟩ 8 (by kernel_rfl) (by kernel_rfl) (by kernel_rfl) (by kernel_rfl)) ?_
  intro W base args ds gs before hval0 hW hcnd _
  have hval : ∀ (j : Nat) t v, Try.f3.params[j]? = some t → args[j]? = some v → Value.okWide Try.prog W .any base t v := hval0
  have hW' := hW
  obtain ⟨p, q, hA0, hV, rfl, hfz, hnd⟩ := hW
  have hA : DataW.TrodAll enc Try.prog W 0 (fun _ => true) true Try.f3.params.toList args.toList ds p := hA0
  rw [Try.params3] at hA hval
  obtain ⟨v0, vs0, dd0, ds0, p0, q0, hargs, rfl, rfl, h0, r0⟩ := trodAll_cons hA
  obtain ⟨v1, vs1, dd1, ds1, p1, q1, rfl, rfl, rfl, h1, r1⟩ := trodAll_cons r0
  obtain ⟨v2, vs2, dd2, ds2, p2, q2, rfl, rfl, rfl, h2, r2⟩ := trodAll_cons r1
  obtain ⟨v3, vs3, dd3, ds3, p3, q3, rfl, rfl, rfl, h3, r3⟩ := trodAll_cons r2
  obtain ⟨v4, vs4, dd4, ds4, p4, q4, rfl, rfl, rfl, h4, r4⟩ := trodAll_cons r3
  obtain ⟨rfl, rfl, rfl⟩ := trodAll_nil r4
  obtain rfl : args = #[v0, v1, v2, v3, v4] := by cases args; simp_all
  obtain ⟨rfl, rfl⟩ := trodVars_none hV
  obtain ⟨A_aKeys, n_aKeys, c_aKeys, d_aKeys, rfl, hm_aKeys, h_aKeys⟩ := open_intS Try.underlying22 Try.underlying3 (by kernel_rfl) (hval 0 22 v0 rfl rfl) h0
  obtain ⟨aIndex, rfl, rfl, rfl, w_aIndex⟩ := open_int Try.underlying3 (hval 1 3 v1 rfl rfl) h1
  obtain ⟨aSecret, rfl, rfl, rfl, w_aSecret⟩ := open_int Try.underlying3 (hval 2 3 v2 rfl rfl) h2
  obtain ⟨aChal, rfl, rfl, rfl, w_aChal⟩ := open_int Try.underlying3 (hval 3 3 v3 rfl rfl) h3
  obtain ⟨A_aTape, n_aTape, c_aTape, d_aTape, rfl, hm_aTape, h_aTape⟩ := open_intS Try.underlying22 Try.underlying3 (by kernel_rfl) (hval 4 22 v4 rfl rfl) h4
  refine (walk A_aKeys n_aKeys c_aKeys d_aKeys aIndex aSecret aChal A_aTape n_aTape c_aTape d_aTape W hm_aKeys h_aKeys w_aIndex w_aSecret w_aChal hm_aTape h_aTape).mono fun e W' ⟨he, hb⟩ => ?_
  subst he
  exact ⟨_, rfl, post_law rfl rfl Try.underlying4 (by kernel_rfl) (by kernel_rfl) hW' rfl hb⟩

theorem closed : joinedFacts Try.prog 3 Try.f3 Rows.fnExactEitherMakeSpec Rows.fnExactEitherMakeRow = true := joined_of (by kernel_rfl)
theorem over : Rows.fnExactEitherMakeRow.holds Try.pinned (OpenSpec.ofChange Rows.fnExactEitherMakeSpec) :=
  OpenClaim.holds_of_wide 3 Try.f3 rfl rfl rfl rfl rfl rfl rfl ⟨rfl, rfl, rfl, rfl, rfl⟩ rfl rfl rfl rfl rfl (by kernel_rfl) Try.func3 closed
    (of_decide_eq_true (by kernel_rfl)) (by unfold Func.isWrapper; first | (rw [if_pos (by decide +kernel)]; kernel_rfl) | (rw [if_neg (by decide +kernel)]; exact ⟨rfl, rfl⟩))
    (fun os started H enc _ => lifted os started H enc)
/-- the statement -/
theorem proved : Rows.FnExactEitherMakeSaid :=
  over
end Go.Proofs.Ytdhakbpimbadgaa.fnExactEitherMake
