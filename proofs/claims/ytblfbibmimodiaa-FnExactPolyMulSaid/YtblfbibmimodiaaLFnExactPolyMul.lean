/- FnExactPolyMul answers true at every input: at each argument the function and its model answer alike, no argument is written, and the answer owns its memory. No condition. -/
import Derived.Test.YtblfbibmimodiaaRows
import Derived.Test.YtblfbibmimodiaaLaw
import Derived.Test.YtblfbibmimodiaaFace2
import Derived.Test.YtblfbibmimodiaaFace2b
namespace Go.Proofs.Ytblfbibmimodiaa.fnExactPolyMul
open Go.ChangeShapes Go.WideShapes Go.ChangeAt Go.RowKit
theorem own : ownKnob Try.prog.godebug = none := by kernel_rfl
set_option maxRecDepth 100000 in
set_option maxHeartbeats 4000000 in
theorem walk (A_aP : Option Addr) (n_aP c_aP : Nat) (d_aP : List Int) (A_aQ : Option Addr) (n_aQ c_aQ : Nat) (d_aQ : List Int) (w : World) (hm_aP : n_aP ≤ 9223372036854775807) (h_aP : Rd w w.heap.size 1 A_aP n_aP (cI d_aP)) (hm_aQ : n_aQ ≤ 9223372036854775807) (h_aQ : Rd w w.heap.size 1 A_aQ n_aQ (cI d_aQ)) :
    Calls Try.prog 6 #[.slice A_aP n_aP c_aP, .slice A_aQ n_aQ c_aQ] w fun e w' => e = .returned (.bool true) ∧ Below w.heap.size w w' := by
  by_cases hs_aP : szIntS d_aP ≤ 1048576
  · have hn_aP : n_aP ≤ 1048576 := by have := h_aP.len; unfold szIntS at hs_aP; omega
    by_cases hs_aQ : szIntS d_aQ ≤ 1048576
    · have hn_aQ : n_aQ ≤ 1048576 := by have := h_aQ.len; unfold szIntS at hs_aQ; omega
      have Ha_aP : Hid (RdIntS w w.heap.size (.slice A_aP n_aP c_aP) d_aP) := Lib.hid (⟨A_aP, n_aP, c_aP, rfl, hm_aP, h_aP⟩)
      have Ha_aQ : Hid (RdIntS w w.heap.size (.slice A_aQ n_aQ c_aQ) d_aQ) := Lib.hid (⟨A_aQ, n_aQ, c_aQ, rfl, hm_aQ, h_aQ⟩)
      clear h_aP h_aQ
      go_enter Try.func6, Try.ntmps6
      go_wp2_with fail
      refine (L_toIntS _ _ _ _ Ha_aP.out (Nat.le_refl _) hs_aP).mono ?_
      rintro e w2 ⟨v1, rfl, hx6, hy7⟩
      have z5 : w.heap.size ≤ w2.heap.size := hy7.size
      have HO3 := Lib.hid hx6
      have HS4 := Lib.hid hy7
      clear hx6 hy7
      have HB8 : Hid (Below w.heap.size w w2) := Lib.hid (HS4.out.mono (by omega))
      clear HS4
      go_wp2_with fail
      refine (L_toIntS _ _ _ _ (RdIntS.below Ha_aQ.out HB8.out) HB8.out.size hs_aQ).mono ?_
      rintro e w10 ⟨v9, rfl, hx14, hy15⟩
      have z13 : w2.heap.size ≤ w10.heap.size := hy15.size
      have HO11 := Lib.hid hx14
      have HS12 := Lib.hid hy15
      clear hx14 hy15
      have HO16 := Lib.hid (HO3.out.below HS12.out (by omega))
      clear HO3
      have HB17 : Hid (Below w.heap.size w w10) := Lib.hid (HB8.out.trans (HS12.out.mono (by omega)))
      clear HB8
      clear HS12
      go_wp2_with fail
      refine (X_s_PolyMul _ _ d_aP d_aQ _ (HO16.out.rd.more (by omega)) (HO11.out.rd.more (by omega)) hs_aP hs_aQ).mono ?_
      rintro e w18 ⟨w0_w18, rfl, hx19, hy20⟩
      have z21 : w10.heap.size ≤ w18.heap.size := hy20.size
      have HO22 := Lib.hid hx19
      clear hx19
      have HS23 := Lib.hid hy20
      clear hy20
      have HO24 := Lib.hid (HO16.out.below HS23.out (by omega))
      clear HO16
      have HO25 := Lib.hid (HO11.out.below HS23.out (by omega))
      clear HO11
      have HB26 : Hid (Below w.heap.size w w18) := Lib.hid (HB17.out.trans (HS23.out.mono (by omega)))
      clear HB17
      clear HS23
      clear HO24
      clear HO25
      go_wp2_with fail
      refine (L_toIntS _ _ _ _ (RdIntS.below Ha_aP.out HB26.out) HB26.out.size hs_aP).mono ?_
      rintro e w28 ⟨v27, rfl, hx32, hy33⟩
      have z31 : w18.heap.size ≤ w28.heap.size := hy33.size
      have HO29 := Lib.hid hx32
      have HS30 := Lib.hid hy33
      clear hx32 hy33
      have HO34 := Lib.hid (HO22.out.below HS30.out (by omega))
      clear HO22
      have HB35 : Hid (Below w.heap.size w w28) := Lib.hid (HB26.out.trans (HS30.out.mono (by omega)))
      clear HB26
      clear HS30
      go_wp2_with fail
      refine (L_toIntS _ _ _ _ (RdIntS.below Ha_aQ.out HB35.out) HB35.out.size hs_aQ).mono ?_
      rintro e w37 ⟨v36, rfl, hx41, hy42⟩
      have z40 : w28.heap.size ≤ w37.heap.size := hy42.size
      have HO38 := Lib.hid hx41
      have HS39 := Lib.hid hy42
      clear hx41 hy42
      have HO43 := Lib.hid (HO34.out.below HS39.out (by omega))
      clear HO34
      have HO44 := Lib.hid (HO29.out.below HS39.out (by omega))
      clear HO29
      have HB45 : Hid (Below w.heap.size w w37) := Lib.hid (HB35.out.trans (HS39.out.mono (by omega)))
      clear HB35
      clear HS39
      go_wp2_with fail
      refine (X_i_PolyMul _ _ d_aP d_aQ _ (HO44.out.rd.more (by omega)) (HO38.out.rd.more (by omega)) hs_aP hs_aQ).mono ?_
      rintro e w46 ⟨g0_w46, rfl, hx47, hy48⟩
      have z49 : w37.heap.size ≤ w46.heap.size := hy48.size
      have HO50 := Lib.hid hx47
      clear hx47
      have HS51 := Lib.hid hy48
      clear hy48
      have HO52 := Lib.hid (HO43.out.below HS51.out (by omega))
      clear HO43
      have HO53 := Lib.hid (HO44.out.below HS51.out (by omega))
      clear HO44
      have HO54 := Lib.hid (HO38.out.below HS51.out (by omega))
      clear HO38
      have HB55 : Hid (Below w.heap.size w w46) := Lib.hid (HB45.out.trans (HS51.out.mono (by omega)))
      clear HB45
      clear HS51
      go_wp2_with fail
      refine (L_eqIntS _ _ _ _ _ _ HO50.out.rd HO52.out.rd (by omega) (by omega) HO50.out.small).mono ?_
      rintro e w56 ⟨rfl, hx57⟩
      have z58 : w46.heap.size ≤ w56.heap.size := by rw [hx57.sz]; exact Nat.le_refl _
      have HS59 := Lib.hid hx57
      clear hx57
      have HO60 := Lib.hid (HO52.out.below (HS59.out.below _) (Nat.le_refl _))
      clear HO52
      have HO61 := Lib.hid (HO53.out.below (HS59.out.below _) (Nat.le_refl _))
      clear HO53
      have HO62 := Lib.hid (HO54.out.below (HS59.out.below _) (Nat.le_refl _))
      clear HO54
      have HO63 := Lib.hid (HO50.out.below (HS59.out.below _) (Nat.le_refl _))
      clear HO50
      have HB64 : Hid (Below w.heap.size w w56) := Lib.hid (HB55.out.trans (HS59.out.below w.heap.size))
      clear HB55
      clear HS59
      go_wp2_with fail
      refine (L_toIntS _ _ _ _ (RdIntS.below Ha_aP.out HB64.out) HB64.out.size hs_aP).mono ?_
      rintro e w66 ⟨v65, rfl, hx70, hy71⟩
      have z69 : w56.heap.size ≤ w66.heap.size := hy71.size
      have HO67 := Lib.hid hx70
      have HS68 := Lib.hid hy71
      clear hx70 hy71
      have HO72 := Lib.hid (HO60.out.below HS68.out (by omega))
      clear HO60
      have HO73 := Lib.hid (HO61.out.below HS68.out (by omega))
      clear HO61
      have HO74 := Lib.hid (HO62.out.below HS68.out (by omega))
      clear HO62
      have HO75 := Lib.hid (HO63.out.below HS68.out (by omega))
      clear HO63
      have HB76 : Hid (Below w.heap.size w w66) := Lib.hid (HB64.out.trans (HS68.out.mono (by omega)))
      clear HB64
      clear HS68
      go_wp2_with fail
      refine (L_eqIntS _ _ _ _ _ _ HO73.out.rd HO67.out.rd (by omega) (by omega) HO73.out.small).mono ?_
      rintro e w77 ⟨rfl, hx78⟩
      have z79 : w66.heap.size ≤ w77.heap.size := by rw [hx78.sz]; exact Nat.le_refl _
      have HS80 := Lib.hid hx78
      clear hx78
      have HO81 := Lib.hid (HO72.out.below (HS80.out.below _) (Nat.le_refl _))
      clear HO72
      have HO82 := Lib.hid (HO73.out.below (HS80.out.below _) (Nat.le_refl _))
      clear HO73
      have HO83 := Lib.hid (HO74.out.below (HS80.out.below _) (Nat.le_refl _))
      clear HO74
      have HO84 := Lib.hid (HO75.out.below (HS80.out.below _) (Nat.le_refl _))
      clear HO75
      have HO85 := Lib.hid (HO67.out.below (HS80.out.below _) (Nat.le_refl _))
      clear HO67
      have HB86 : Hid (Below w.heap.size w w77) := Lib.hid (HB76.out.trans (HS80.out.below w.heap.size))
      clear HB76
      clear HS80
      clear HO85
      go_wp2_with fail
      refine (L_toIntS _ _ _ _ (RdIntS.below Ha_aQ.out HB86.out) HB86.out.size hs_aQ).mono ?_
      rintro e w88 ⟨v87, rfl, hx92, hy93⟩
      have z91 : w77.heap.size ≤ w88.heap.size := hy93.size
      have HO89 := Lib.hid hx92
      have HS90 := Lib.hid hy93
      clear hx92 hy93
      have HO94 := Lib.hid (HO81.out.below HS90.out (by omega))
      clear HO81
      have HO95 := Lib.hid (HO82.out.below HS90.out (by omega))
      clear HO82
      have HO96 := Lib.hid (HO83.out.below HS90.out (by omega))
      clear HO83
      have HO97 := Lib.hid (HO84.out.below HS90.out (by omega))
      clear HO84
      have HB98 : Hid (Below w.heap.size w w88) := Lib.hid (HB86.out.trans (HS90.out.mono (by omega)))
      clear HB86
      clear HS90
      go_wp2_with fail
      refine (L_eqIntS _ _ _ _ _ _ HO96.out.rd HO89.out.rd (by omega) (by omega) HO96.out.small).mono ?_
      rintro e w99 ⟨rfl, hx100⟩
      have z101 : w88.heap.size ≤ w99.heap.size := by rw [hx100.sz]; exact Nat.le_refl _
      have HS102 := Lib.hid hx100
      clear hx100
      have HO103 := Lib.hid (HO94.out.below (HS102.out.below _) (Nat.le_refl _))
      clear HO94
      have HO104 := Lib.hid (HO95.out.below (HS102.out.below _) (Nat.le_refl _))
      clear HO95
      have HO105 := Lib.hid (HO96.out.below (HS102.out.below _) (Nat.le_refl _))
      clear HO96
      have HO106 := Lib.hid (HO97.out.below (HS102.out.below _) (Nat.le_refl _))
      clear HO97
      have HO107 := Lib.hid (HO89.out.below (HS102.out.below _) (Nat.le_refl _))
      clear HO89
      have HB108 : Hid (Below w.heap.size w w99) := Lib.hid (HB98.out.trans (HS102.out.below w.heap.size))
      clear HB98
      clear HS102
      clear HO107
      go_wp2_with fail
      refine (L_markIntS _ _ _ _ _ _ HO104.out (by omega) (by omega)).mono ?_
      rintro e w109 ⟨K110, rfl, hk111, h0_112, h1_113, hx114, hy115, z116, z117⟩
      have HO118 := Lib.hid hx114
      have HS119 := Lib.hid hy115
      clear hx114 hy115
      have HO120 := Lib.hid (HO103.out.kept HS119.out (by omega) (by omega))
      clear HO103
      have HO121 := Lib.hid (HO105.out.kept HS119.out (by omega) (by omega))
      clear HO105
      have HO122 := Lib.hid (HO106.out.kept HS119.out (by omega) (by omega))
      clear HO106
      have HB123 : Hid (Below w.heap.size w w109) := Lib.hid (HB108.out.trans ((HS119.out.to_below (by omega)).mono (by omega)))
      clear HB108
      clear HS119 HO104
      go_wp2_with fail
      refine (L_markIntS _ _ _ _ _ _ HO121.out (by omega) (by omega)).mono ?_
      rintro e w124 ⟨K125, rfl, hk126, h0_127, h1_128, hx129, hy130, z131, z132⟩
      have HO133 := Lib.hid hx129
      have HS134 := Lib.hid hy130
      clear hx129 hy130
      have HO135 := Lib.hid (HO120.out.kept HS134.out (by omega) (by omega))
      clear HO120
      have HO136 := Lib.hid (HO118.out.kept HS134.out (by omega) (by omega))
      clear HO118
      have HO137 := Lib.hid (HO122.out.kept HS134.out (by omega) (by omega))
      clear HO122
      have HB138 : Hid (Below w.heap.size w w124) := Lib.hid (HB123.out.trans ((HS134.out.to_below (by omega)).mono (by omega)))
      clear HB123
      clear HS134 HO121
      clear HO136
      clear HO133
      go_wp2_with fail
      refine (L_eqIntS _ _ _ _ _ _ HO137.out.rd HO135.out.rd (by omega) (by omega) HO137.out.small).mono ?_
      rintro e w139 ⟨rfl, hx140⟩
      have z141 : w124.heap.size ≤ w139.heap.size := by rw [hx140.sz]; exact Nat.le_refl _
      have HS142 := Lib.hid hx140
      clear hx140
      have HO143 := Lib.hid (HO135.out.below (HS142.out.below _) (Nat.le_refl _))
      clear HO135
      have HO144 := Lib.hid (HO137.out.below (HS142.out.below _) (Nat.le_refl _))
      clear HO137
      have HB145 : Hid (Below w.heap.size w w139) := Lib.hid (HB138.out.trans (HS142.out.below w.heap.size))
      clear HB138
      clear HS142
      have hs146 := HO144.out.small
      go_wp2_with fail
      refine (L_markIntS _ _ _ _ _ _ HO144.out (by omega) (by omega)).mono ?_
      rintro e w147 ⟨K148, rfl, hk149, h0_150, h1_151, hx152, hy153, z154, z155⟩
      have HO156 := Lib.hid hx152
      have HS157 := Lib.hid hy153
      clear hx152 hy153
      have HO158 := Lib.hid (HO143.out.kept HS157.out (by omega) (by omega))
      clear HO143
      have HB159 : Hid (Below w.heap.size w w147) := Lib.hid (HB145.out.trans ((HS157.out.to_below (by omega)).mono (by omega)))
      clear HB145
      clear HS157 HO144
      go_wp2_with fail
      refine (L_heldIntS _ _ (R_PolyMul_0 d_aP d_aQ) 1 _ _ HO156.out.rd hs146 (Lib.hid rfl) (by omega) (by omega)).mono ?_
      rintro e w160 ⟨K161, rfl, hk162, h0_163, h1_164, hx165⟩
      have z166 : w147.heap.size ≤ w160.heap.size := by rw [hx165.sz]; exact Nat.le_refl _
      have HS167 := Lib.hid hx165
      clear hx165
      have HE168 : Hid (K161 = K148) := Lib.hid (by rw [hk162.out, hk149.out])
      have hne169 : (K161 != K148) = false := by rw [HE168.out]; simp
      have HO170 := Lib.hid (HO158.out.below (HS167.out.below _) (Nat.le_refl _))
      clear HO158
      have HO171 := Lib.hid (HO156.out.below (HS167.out.below _) (Nat.le_refl _))
      clear HO156
      have HB172 : Hid (Below w.heap.size w w160) := Lib.hid (HB159.out.trans (HS167.out.below w.heap.size))
      clear HB159
      clear HS167
      go_wp2_with fail
      refine (L_toIntS _ _ _ _ (RdIntS.below Ha_aP.out HB172.out) HB172.out.size hs_aP).mono ?_
      rintro e w174 ⟨v173, rfl, hx178, hy179⟩
      have z177 : w160.heap.size ≤ w174.heap.size := hy179.size
      have HO175 := Lib.hid hx178
      have HS176 := Lib.hid hy179
      clear hx178 hy179
      have HO180 := Lib.hid (HO170.out.below HS176.out (by omega))
      clear HO170
      have HO181 := Lib.hid (HO171.out.below HS176.out (by omega))
      clear HO171
      have HB182 : Hid (Below w.heap.size w w174) := Lib.hid (HB172.out.trans (HS176.out.mono (by omega)))
      clear HB172
      clear HS176
      go_wp2_with fail
      refine (L_toIntS _ _ _ _ (RdIntS.below Ha_aQ.out HB182.out) HB182.out.size hs_aQ).mono ?_
      rintro e w184 ⟨v183, rfl, hx188, hy189⟩
      have z187 : w174.heap.size ≤ w184.heap.size := hy189.size
      have HO185 := Lib.hid hx188
      have HS186 := Lib.hid hy189
      clear hx188 hy189
      have HO190 := Lib.hid (HO180.out.below HS186.out (by omega))
      clear HO180
      have HO191 := Lib.hid (HO181.out.below HS186.out (by omega))
      clear HO181
      have HO192 := Lib.hid (HO175.out.below HS186.out (by omega))
      clear HO175
      have HB193 : Hid (Below w.heap.size w w184) := Lib.hid (HB182.out.trans (HS186.out.mono (by omega)))
      clear HB182
      clear HS186
      go_wp2_with fail
      refine (X_i_PolyMul _ _ d_aP d_aQ _ (HO192.out.rd.more (by omega)) (HO185.out.rd.more (by omega)) hs_aP hs_aQ).mono ?_
      rintro e w194 ⟨h0_w194, rfl, hx195, hy196⟩
      have z197 : w184.heap.size ≤ w194.heap.size := hy196.size
      have HO198 := Lib.hid hx195
      clear hx195
      have HS199 := Lib.hid hy196
      clear hy196
      have HO200 := Lib.hid (HO190.out.below HS199.out (by omega))
      clear HO190
      have HO201 := Lib.hid (HO191.out.below HS199.out (by omega))
      clear HO191
      have HO202 := Lib.hid (HO192.out.below HS199.out (by omega))
      clear HO192
      have HO203 := Lib.hid (HO185.out.below HS199.out (by omega))
      clear HO185
      have HB204 : Hid (Below w.heap.size w w194) := Lib.hid (HB193.out.trans (HS199.out.mono (by omega)))
      clear HB193
      clear HS199
      clear HO202
      clear HO203
      go_wp2_with fail
      refine (L_eqIntS _ _ _ _ _ _ HO198.out.rd HO200.out.rd (by omega) (by omega) HO198.out.small).mono ?_
      rintro e w205 ⟨rfl, hx206⟩
      have z207 : w194.heap.size ≤ w205.heap.size := by rw [hx206.sz]; exact Nat.le_refl _
      have HS208 := Lib.hid hx206
      clear hx206
      have HO209 := Lib.hid (HO200.out.below (HS208.out.below _) (Nat.le_refl _))
      clear HO200
      have HO210 := Lib.hid (HO201.out.below (HS208.out.below _) (Nat.le_refl _))
      clear HO201
      have HO211 := Lib.hid (HO198.out.below (HS208.out.below _) (Nat.le_refl _))
      clear HO198
      have HB212 : Hid (Below w.heap.size w w205) := Lib.hid (HB204.out.trans (HS208.out.below w.heap.size))
      clear HB204
      clear HS208
      go_wp2_with fail
      refine (L_heldIntS _ _ (R_PolyMul_0 d_aP d_aQ) 1 _ _ HO210.out.rd hs146 (Lib.hid rfl) (by omega) (by omega)).mono ?_
      rintro e w213 ⟨K214, rfl, hk215, h0_216, h1_217, hx218⟩
      have z219 : w205.heap.size ≤ w213.heap.size := by rw [hx218.sz]; exact Nat.le_refl _
      have HS220 := Lib.hid hx218
      clear hx218
      have HE221 : Hid (K214 = K148) := Lib.hid (by rw [hk215.out, hk149.out])
      have hne222 : (K214 != K148) = false := by rw [HE221.out]; simp
      have HO223 := Lib.hid (HO209.out.below (HS220.out.below _) (Nat.le_refl _))
      clear HO209
      have HO224 := Lib.hid (HO210.out.below (HS220.out.below _) (Nat.le_refl _))
      clear HO210
      have HO225 := Lib.hid (HO211.out.below (HS220.out.below _) (Nat.le_refl _))
      clear HO211
      have HB226 : Hid (Below w.heap.size w w213) := Lib.hid (HB212.out.trans (HS220.out.below w.heap.size))
      clear HB212
      clear HS220
      go_wp2
      go_ret
      exact ⟨rfl, HB226.out⟩
    · have hn_aQ : ¬ n_aQ ≤ 1048576 := by have := h_aQ.len; unfold szIntS at hs_aQ; omega
      go_enter Try.func6, Try.ntmps6
      go_wp2
      go_ret
      exact ⟨rfl, Below.refl _ _⟩
  · have hn_aP : ¬ n_aP ≤ 1048576 := by have := h_aP.len; unfold szIntS at hs_aP; omega
    go_enter Try.func6, Try.ntmps6
    go_wp2
    go_ret
    exact ⟨rfl, Below.refl _ _⟩

set_option maxRecDepth 100000 in
theorem lifted (os : Os) (started : os.Started) (H : Type) (enc : TypeId × Value → H) :
    ReturnsInHanded {} Try.checked os 6 .any (Rows.fnExactPolyMulSpec.pre6 enc Try.prog Try.f6 Rows.fnExactPolyMulRow.domain false) (Rows.fnExactPolyMulSpec.post enc Try.prog Try.f6 false true false false) := by
  refine returnsInHanded_of_change (C := Try.checked) own started (by kernel_rfl) Try.func6
    (ChangeSpec.witness6 (enc := enc) (C := Try.checked) false ⟨#[], #[.slice none 0 0, .slice none 0 0], []⟩ 8 (by kernel_rfl) (by kernel_rfl) (by kernel_rfl) (by kernel_rfl)) ?_
  intro W base args ds gs before hval0 hW hcnd _
  have hval : ∀ (j : Nat) t v, Try.f6.params[j]? = some t → args[j]? = some v → Value.okWide Try.prog W .any base t v := hval0
  have hW' := hW
  obtain ⟨p, q, hA0, hV, rfl, hfz, hnd⟩ := hW
  have hA : DataW.TrodAll enc Try.prog W 0 (fun _ => true) true Try.f6.params.toList args.toList ds p := hA0
  rw [Try.params6] at hA hval
  obtain ⟨v0, vs0, dd0, ds0, p0, q0, hargs, rfl, rfl, h0, r0⟩ := trodAll_cons hA
  obtain ⟨v1, vs1, dd1, ds1, p1, q1, rfl, rfl, rfl, h1, r1⟩ := trodAll_cons r0
  obtain ⟨rfl, rfl, rfl⟩ := trodAll_nil r1
  obtain rfl : args = #[v0, v1] := by cases args; simp_all
  obtain ⟨rfl, rfl⟩ := trodVars_none hV
  obtain ⟨A_aP, n_aP, c_aP, d_aP, rfl, hm_aP, h_aP⟩ := open_intS Try.underlying22 Try.underlying3 (by kernel_rfl) (hval 0 22 v0 rfl rfl) h0
  obtain ⟨A_aQ, n_aQ, c_aQ, d_aQ, rfl, hm_aQ, h_aQ⟩ := open_intS Try.underlying22 Try.underlying3 (by kernel_rfl) (hval 1 22 v1 rfl rfl) h1
  refine (walk A_aP n_aP c_aP d_aP A_aQ n_aQ c_aQ d_aQ W hm_aP h_aP hm_aQ h_aQ).mono fun e W' ⟨he, hb⟩ => ?_
  subst he
  exact ⟨_, rfl, post_law rfl rfl Try.underlying4 (by kernel_rfl) (by kernel_rfl) hW' rfl hb⟩

theorem over : Rows.fnExactPolyMulRow.holds Try.pinned (OpenSpec.ofChange Rows.fnExactPolyMulSpec) :=
  OpenClaim.holds_of_wide 6 Try.f6 rfl rfl rfl rfl rfl rfl rfl ⟨rfl, rfl, rfl, rfl, rfl⟩ rfl rfl rfl rfl rfl (by kernel_rfl) Try.func6 (by kernel_rfl)
    (of_decide_eq_true (by kernel_rfl)) (by unfold Func.isWrapper; first | (rw [if_pos (by decide +kernel)]; kernel_rfl) | (rw [if_neg (by decide +kernel)]; exact ⟨rfl, rfl⟩))
    (fun os started H enc _ => lifted os started H enc)
/-- the statement -/
theorem proved : Rows.FnExactPolyMulSaid :=
  over
end Go.Proofs.Ytblfbibmimodiaa.fnExactPolyMul
