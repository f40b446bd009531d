/- FnExactSharesExplain answers true at every input: at each argument the function and its model answer alike, no argument is written, and the answer owns its memory. No condition. -/
import Derived.Test.YtbnobkojkfmccaaRows
import Derived.Test.YtbnobkojkfmccaaLaw
import Derived.Test.YtbnobkojkfmccaaDoor
import Derived.Test.YtbnobkojkfmccaaWalk12f
import Derived.Test.YtbnobkojkfmccaaFaceP
namespace Go.Proofs.Ytbnobkojkfmccaa.fnExactSharesExplain
open Go.ChangeShapes Go.WideShapes Go.ChangeAt Go.RowKit
theorem own : ownKnob Try.prog.godebug = none := by kernel_rfl
set_option maxRecDepth 100000 in
set_option maxHeartbeats 4000000 in
theorem walk (aSecret : Int) (A_aList : Option Addr) (n_aList c_aList : Nat) (d_aList : List (Int × Int)) (w : World) (_w_aSecret : (Lit.int .i64 aSecret).wf = true) (hm_aList : n_aList ≤ 9223372036854775807) (h_aList : Rd w w.heap.size 2 A_aList n_aList (cP d_aList)) :
    Calls Try.prog 10 #[.int .i64 aSecret, .slice A_aList n_aList c_aList] w fun e w' => e = .returned (.bool true) ∧ Below w.heap.size w w' := by
  have Ha_aList : Hid (RdPointS w w.heap.size (.slice A_aList n_aList c_aList) d_aList) := Lib.hid (⟨A_aList, n_aList, c_aList, rfl, hm_aList, h_aList⟩)
  clear h_aList
  go_enter Try.func10, Try.ntmps10
  go_wp2_with fail
  rcases Int.lt_or_le 1048576 (szPointS d_aList : Nat) with hl1 | hl1
  · refine (L_szPointS_no _ _ _ _ _ Ha_aList.out (by omega) (by omega) hl1).mono ?_
    rintro e w' ⟨rfl, hb⟩
    have hb2 := Lib.hid hb
    clear hb
    go_wp2
    go_ret
    exact ⟨rfl, hb2.out⟩
  refine (L_szPointS_ok _ _ _ _ _ Ha_aList.out (by omega) (by omega) hl1).mono ?_
  rintro e w2 ⟨L3, rfl, hx6, h0_4, h1_5, hy7⟩
  have hs_aList : szPointS d_aList ≤ 1048576 := by omega
  have z8 : w.heap.size ≤ w2.heap.size := hy7.size
  have HS9 := Lib.hid hy7
  clear hy7
  have HB10 : Hid (Below w.heap.size w w2) := Lib.hid (HS9.out.mono (by omega))
  clear HS9
  go_wp2_with fail
  refine (L_toPointS _ _ _ _ (RdPointS.below Ha_aList.out HB10.out) HB10.out.size hs_aList).mono ?_
  rintro e w12 ⟨v11, rfl, hx16, hy17⟩
  have z15 : w2.heap.size ≤ w12.heap.size := hy17.size
  have HO13 := Lib.hid hx16
  have HS14 := Lib.hid hy17
  clear hx16 hy17
  have HB18 : Hid (Below w.heap.size w w12) := Lib.hid (HB10.out.trans (HS14.out.mono (by omega)))
  clear HB10
  clear HS14
  go_wp2_with fail
  refine (X_s_SharesExplain _ aSecret d_aList _ (HO13.out.rd.more (by omega)) hs_aList).mono ?_
  rintro e w19 ⟨w0_w19, rfl, hx20, hy21⟩
  have z22 : w12.heap.size ≤ w19.heap.size := hy21.size
  have HO23 := Lib.hid hx20
  clear hx20
  have HS24 := Lib.hid hy21
  clear hy21
  have HO25 := Lib.hid (HO13.out.below HS24.out (by omega))
  clear HO13
  have HB26 : Hid (Below w.heap.size w w19) := Lib.hid (HB18.out.trans (HS24.out.mono (by omega)))
  clear HB18
  clear HS24
  clear HO25
  go_wp2_with fail
  refine (L_toPointS _ _ _ _ (RdPointS.below Ha_aList.out HB26.out) HB26.out.size hs_aList).mono ?_
  rintro e w28 ⟨v27, rfl, hx32, hy33⟩
  have z31 : w19.heap.size ≤ w28.heap.size := hy33.size
  have HO29 := Lib.hid hx32
  have HS30 := Lib.hid hy33
  clear hx32 hy33
  have HO34 := Lib.hid (HO23.out.below HS30.out (by omega))
  clear HO23
  have HB35 : Hid (Below w.heap.size w w28) := Lib.hid (HB26.out.trans (HS30.out.mono (by omega)))
  clear HB26
  clear HS30
  go_wp2_with fail
  refine (X_i_SharesExplain _ aSecret d_aList _ (HO29.out.rd.more (by omega)) hs_aList).mono ?_
  rintro e w36 ⟨g0_w36, rfl, hx37, hy38⟩
  have z39 : w28.heap.size ≤ w36.heap.size := hy38.size
  have HO40 := Lib.hid hx37
  clear hx37
  have HS41 := Lib.hid hy38
  clear hy38
  have HO42 := Lib.hid (HO34.out.below HS41.out (by omega))
  clear HO34
  have HO43 := Lib.hid (HO29.out.below HS41.out (by omega))
  clear HO29
  have HB44 : Hid (Below w.heap.size w w36) := Lib.hid (HB35.out.trans (HS41.out.mono (by omega)))
  clear HB35
  clear HS41
  go_wp2_with fail
  refine (L_eqIntT _ _ _ _ _ _ HO40.out.rd HO42.out.rd (by omega) (by omega) HO40.out.small).mono ?_
  rintro e w45 ⟨rfl, hx46⟩
  have z47 : w36.heap.size ≤ w45.heap.size := hx46.size
  have HS48 := Lib.hid hx46
  clear hx46
  have HO49 := Lib.hid (HO42.out.below HS48.out (by omega))
  clear HO42
  have HO50 := Lib.hid (HO43.out.below HS48.out (by omega))
  clear HO43
  have HO51 := Lib.hid (HO40.out.below HS48.out (by omega))
  clear HO40
  have HB52 : Hid (Below w.heap.size w w45) := Lib.hid (HB44.out.trans (HS48.out.mono (by omega)))
  clear HB44
  clear HS48
  go_wp2_with fail
  refine (L_toPointS _ _ _ _ (RdPointS.below Ha_aList.out HB52.out) HB52.out.size hs_aList).mono ?_
  rintro e w54 ⟨v53, rfl, hx58, hy59⟩
  have z57 : w45.heap.size ≤ w54.heap.size := hy59.size
  have HO55 := Lib.hid hx58
  have HS56 := Lib.hid hy59
  clear hx58 hy59
  have HO60 := Lib.hid (HO49.out.below HS56.out (by omega))
  clear HO49
  have HO61 := Lib.hid (HO50.out.below HS56.out (by omega))
  clear HO50
  have HO62 := Lib.hid (HO51.out.below HS56.out (by omega))
  clear HO51
  have HB63 : Hid (Below w.heap.size w w54) := Lib.hid (HB52.out.trans (HS56.out.mono (by omega)))
  clear HB52
  clear HS56
  go_wp2_with fail
  refine (L_eqPointS _ _ _ _ _ _ HO61.out.rd HO55.out.rd (by omega) (by omega) HO61.out.small).mono ?_
  rintro e w64 ⟨rfl, hx65⟩
  have z66 : w54.heap.size ≤ w64.heap.size := hx65.size
  have HS67 := Lib.hid hx65
  clear hx65
  have HO68 := Lib.hid (HO60.out.below HS67.out (by omega))
  clear HO60
  have HO69 := Lib.hid (HO61.out.below HS67.out (by omega))
  clear HO61
  have HO70 := Lib.hid (HO62.out.below HS67.out (by omega))
  clear HO62
  have HO71 := Lib.hid (HO55.out.below HS67.out (by omega))
  clear HO55
  have HB72 : Hid (Below w.heap.size w w64) := Lib.hid (HB63.out.trans (HS67.out.mono (by omega)))
  clear HB63
  clear HS67
  clear HO71
  go_wp2_with fail
  refine (L_markPointS _ _ _ _ _ _ HO69.out (by omega) (by omega) (by omega)).mono ?_
  rintro e w73 ⟨K74, rfl, hk75, h0_76, h1_77, hx78, hy79⟩
  have z80 : w64.heap.size ≤ w73.heap.size := hy79.size
  have HO81 := Lib.hid hx78
  have HS82 := Lib.hid hy79
  clear hx78 hy79
  have HO83 := Lib.hid (HO68.out.kept HS82.out (by omega) (by omega))
  clear HO68
  have HO84 := Lib.hid (HO70.out.kept HS82.out (by omega) (by omega))
  clear HO70
  have HB85 : Hid (Below w.heap.size w w73) := Lib.hid (HB72.out.trans ((HS82.out.to_below (by omega)).mono (by omega)))
  clear HB72
  clear HS82 HO69
  clear HO81
  go_wp2_with fail
  refine (L_eqIntT _ _ _ _ _ _ HO84.out.rd HO83.out.rd (by omega) (by omega) HO84.out.small).mono ?_
  rintro e w86 ⟨rfl, hx87⟩
  have z88 : w73.heap.size ≤ w86.heap.size := hx87.size
  have HS89 := Lib.hid hx87
  clear hx87
  have HO90 := Lib.hid (HO83.out.below HS89.out (by omega))
  clear HO83
  have HO91 := Lib.hid (HO84.out.below HS89.out (by omega))
  clear HO84
  have HB92 : Hid (Below w.heap.size w w86) := Lib.hid (HB85.out.trans (HS89.out.mono (by omega)))
  clear HB85
  clear HS89
  have hs93 := HO91.out.small
  go_wp2_with fail
  refine (L_markIntT _ _ _ _ _ _ HO91.out (by omega) (by omega) (by omega)).mono ?_
  rintro e w94 ⟨K95, rfl, hk96, h0_97, h1_98, hx99, hy100⟩
  have z101 : w86.heap.size ≤ w94.heap.size := hy100.size
  have HO102 := Lib.hid hx99
  have HS103 := Lib.hid hy100
  clear hx99 hy100
  have HO104 := Lib.hid (HO90.out.kept HS103.out (by omega) (by omega))
  clear HO90
  have HB105 : Hid (Below w.heap.size w w94) := Lib.hid (HB92.out.trans ((HS103.out.to_below (by omega)).mono (by omega)))
  clear HB92
  clear HS103 HO91
  go_wp2_with fail
  refine (L_heldIntT _ _ (R_SharesExplain_0 aSecret d_aList) 1 _ _ HO102.out.rd (by omega) hs93 (Lib.hid rfl) (by omega) (by omega)).mono ?_
  rintro e w106 ⟨K107, rfl, hk108, h0_109, h1_110, hx111⟩
  have z112 : w94.heap.size ≤ w106.heap.size := hx111.size
  have HS113 := Lib.hid hx111
  clear hx111
  have HE114 : Hid (K107 = K95) := Lib.hid (by rw [hk108.out, hk96.out])
  have hne115 : (K107 != K95) = false := by rw [HE114.out]; simp
  have HO116 := Lib.hid (HO104.out.below HS113.out (by omega))
  clear HO104
  have HO117 := Lib.hid (HO102.out.below HS113.out (by omega))
  clear HO102
  have HB118 : Hid (Below w.heap.size w w106) := Lib.hid (HB105.out.trans (HS113.out.mono (by omega)))
  clear HB105
  clear HS113
  go_wp2_with fail
  refine (L_toPointS _ _ _ _ (RdPointS.below Ha_aList.out HB118.out) HB118.out.size hs_aList).mono ?_
  rintro e w120 ⟨v119, rfl, hx124, hy125⟩
  have z123 : w106.heap.size ≤ w120.heap.size := hy125.size
  have HO121 := Lib.hid hx124
  have HS122 := Lib.hid hy125
  clear hx124 hy125
  have HO126 := Lib.hid (HO116.out.below HS122.out (by omega))
  clear HO116
  have HO127 := Lib.hid (HO117.out.below HS122.out (by omega))
  clear HO117
  have HB128 : Hid (Below w.heap.size w w120) := Lib.hid (HB118.out.trans (HS122.out.mono (by omega)))
  clear HB118
  clear HS122
  go_wp2_with fail
  refine (X_i_SharesExplain _ aSecret d_aList _ (HO121.out.rd.more (by omega)) hs_aList).mono ?_
  rintro e w129 ⟨h0_w129, rfl, hx130, hy131⟩
  have z132 : w120.heap.size ≤ w129.heap.size := hy131.size
  have HO133 := Lib.hid hx130
  clear hx130
  have HS134 := Lib.hid hy131
  clear hy131
  have HO135 := Lib.hid (HO126.out.below HS134.out (by omega))
  clear HO126
  have HO136 := Lib.hid (HO127.out.below HS134.out (by omega))
  clear HO127
  have HO137 := Lib.hid (HO121.out.below HS134.out (by omega))
  clear HO121
  have HB138 : Hid (Below w.heap.size w w129) := Lib.hid (HB128.out.trans (HS134.out.mono (by omega)))
  clear HB128
  clear HS134
  clear HO137
  go_wp2_with fail
  refine (L_eqIntT _ _ _ _ _ _ HO133.out.rd HO135.out.rd (by omega) (by omega) HO133.out.small).mono ?_
  rintro e w139 ⟨rfl, hx140⟩
  have z141 : w129.heap.size ≤ w139.heap.size := hx140.size
  have HS142 := Lib.hid hx140
  clear hx140
  have HO143 := Lib.hid (HO135.out.below HS142.out (by omega))
  clear HO135
  have HO144 := Lib.hid (HO136.out.below HS142.out (by omega))
  clear HO136
  have HO145 := Lib.hid (HO133.out.below HS142.out (by omega))
  clear HO133
  have HB146 : Hid (Below w.heap.size w w139) := Lib.hid (HB138.out.trans (HS142.out.mono (by omega)))
  clear HB138
  clear HS142
  go_wp2_with fail
  refine (L_heldIntT _ _ (R_SharesExplain_0 aSecret d_aList) 1 _ _ HO144.out.rd (by omega) hs93 (Lib.hid rfl) (by omega) (by omega)).mono ?_
  rintro e w147 ⟨K148, rfl, hk149, h0_150, h1_151, hx152⟩
  have z153 : w139.heap.size ≤ w147.heap.size := hx152.size
  have HS154 := Lib.hid hx152
  clear hx152
  have HE155 : Hid (K148 = K95) := Lib.hid (by rw [hk149.out, hk96.out])
  have hne156 : (K148 != K95) = false := by rw [HE155.out]; simp
  have HO157 := Lib.hid (HO143.out.below HS154.out (by omega))
  clear HO143
  have HO158 := Lib.hid (HO144.out.below HS154.out (by omega))
  clear HO144
  have HO159 := Lib.hid (HO145.out.below HS154.out (by omega))
  clear HO145
  have HB160 : Hid (Below w.heap.size w w147) := Lib.hid (HB146.out.trans (HS154.out.mono (by omega)))
  clear HB146
  clear HS154
  go_wp2
  go_ret
  exact ⟨rfl, HB160.out⟩

set_option maxRecDepth 100000 in
theorem lifted (os : Os) (started : os.Started) (H : Type) (enc : TypeId × Value → H) :
    ReturnsInHanded {} Try.checked os 10 .any (Rows.fnExactSharesExplainSpec.pre6 enc Try.prog Try.f10 Rows.fnExactSharesExplainRow.domain false) (Rows.fnExactSharesExplainSpec.post enc Try.prog Try.f10 false true false false) := by
  refine returnsInHanded_of_change (C := Try.checked) own started (by kernel_rfl) Try.func10
    (ChangeSpec.witness6 (enc := enc) (C := Try.checked) false ⟨#[], #[.int .i64 0, .slice none 0 0], []⟩ 8 (by kernel_rfl) (by kernel_rfl) (by kernel_rfl) (by kernel_rfl)) ?_
  intro W base args ds gs before hval0 hW hcnd _
  have hval : ∀ (j : Nat) t v, Try.f10.params[j]? = some t → args[j]? = some v → Value.okWide Try.prog W .any base t v := hval0
  have hW' := hW
  obtain ⟨p, q, hA0, hV, rfl, hfz, hnd⟩ := hW
  have hA : DataW.TrodAll enc Try.prog W 0 (fun _ => true) true Try.f10.params.toList args.toList ds p := hA0
  rw [Try.params10] at hA hval
  obtain ⟨v0, vs0, dd0, ds0, p0, q0, hargs, rfl, rfl, h0, r0⟩ := trodAll_cons hA
  obtain ⟨v1, vs1, dd1, ds1, p1, q1, rfl, rfl, rfl, h1, r1⟩ := trodAll_cons r0
  obtain ⟨rfl, rfl, rfl⟩ := trodAll_nil r1
  obtain rfl : args = #[v0, v1] := by cases args; simp_all
  obtain ⟨rfl, rfl⟩ := trodVars_none hV
  obtain ⟨aSecret, rfl, rfl, rfl, w_aSecret⟩ := open_int Try.underlying3 (hval 0 3 v0 rfl rfl) h0
  obtain ⟨A_aList, n_aList, c_aList, d_aList, rfl, hm_aList, h_aList⟩ := open_pairS Try.underlying47 Try.underlying97 (by kernel_rfl) rfl rfl (by kernel_rfl) (by kernel_rfl) Try.underlying3 Try.underlying3 (hval 1 47 v1 rfl rfl) h1
  refine (walk aSecret A_aList n_aList c_aList d_aList W w_aSecret hm_aList h_aList).mono fun e W' ⟨he, hb⟩ => ?_
  subst he
  exact ⟨_, rfl, post_law rfl rfl Try.underlying4 (by kernel_rfl) (by kernel_rfl) hW' rfl hb⟩

theorem closed : joinedFacts Try.prog 10 Try.f10 Rows.fnExactSharesExplainSpec Rows.fnExactSharesExplainRow = true := joined_of (by kernel_rfl)
theorem over : Rows.fnExactSharesExplainRow.holds Try.pinned (OpenSpec.ofChange Rows.fnExactSharesExplainSpec) :=
  OpenClaim.holds_of_wide 10 Try.f10 rfl rfl rfl rfl rfl rfl rfl ⟨rfl, rfl, rfl, rfl, rfl⟩ rfl rfl rfl rfl rfl (by kernel_rfl) Try.func10 closed
    (of_decide_eq_true (by kernel_rfl)) (by unfold Func.isWrapper; first | (rw [if_pos (by decide +kernel)]; kernel_rfl) | (rw [if_neg (by decide +kernel)]; exact ⟨rfl, rfl⟩))
    (fun os started H enc _ => lifted os started H enc)
/-- the statement -/
theorem proved : Rows.FnExactSharesExplainSaid :=
  over
end Go.Proofs.Ytbnobkojkfmccaa.fnExactSharesExplain
