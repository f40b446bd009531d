/- FnExactLinkGood answers true at every input: at each argument the function and its model answer alike, no argument is written, and the answer owns its memory. No condition. -/
import Derived.Test.YtalokhilodlhfaaRows
import Derived.Test.YtalokhilodlhfaaLaw
import Derived.Test.YtalokhilodlhfaaDoor
import Derived.Test.YtalokhilodlhfaaWalk16j
import Derived.Test.YtalokhilodlhfaaOpenP
import Derived.Test.YtalokhilodlhfaaFaceI
namespace Go.Proofs.Ytalokhilodlhfaa.fnExactLinkGood
open Go.ChangeShapes Go.WideShapes Go.ChangeAt Go.RowKit
theorem own : ownKnob Try.prog.godebug = none := by kernel_rfl
set_option maxRecDepth 100000 in
set_option maxHeartbeats 4000000 in
theorem walk (A_aKeys : Option Addr) (n_aKeys c_aKeys : Nat) (d_aKeys : List Int) (A_aMessage : Option Addr) (n_aMessage c_aMessage : Nat) (d_aMessage : List Int) (aTag : Int) (A_aList : Option Addr) (n_aList c_aList : Nat) (d_aList : List (Int × Int × Int × Int)) (w : World) (hm_aKeys : n_aKeys ≤ 9223372036854775807) (h_aKeys : Rd w w.heap.size 1 A_aKeys n_aKeys (cI d_aKeys)) (hm_aMessage : n_aMessage ≤ 9223372036854775807) (h_aMessage : Rd w w.heap.size 1 A_aMessage n_aMessage (cI d_aMessage)) (_w_aTag : (Lit.int .i64 aTag).wf = true) (hm_aList : n_aList ≤ 9223372036854775807) (h_aList : Rd w w.heap.size 4 A_aList n_aList (cTwin d_aList)) :
    Calls Try.prog 10 #[.slice A_aKeys n_aKeys c_aKeys, .slice A_aMessage n_aMessage c_aMessage, .int .i64 aTag, .slice A_aList n_aList c_aList] w fun e w' => e = .returned (.bool true) ∧ Below w.heap.size w w' := by
  by_cases hs_aKeys : szIntS d_aKeys ≤ 1048576
  · have hn_aKeys : n_aKeys ≤ 1048576 := by have := h_aKeys.len; unfold szIntS at hs_aKeys; omega
    by_cases hs_aMessage : szIntS d_aMessage ≤ 1048576
    · have hn_aMessage : n_aMessage ≤ 1048576 := by have := h_aMessage.len; unfold szIntS at hs_aMessage; omega
      have Ha_aKeys : Hid (RdIntS w w.heap.size (.slice A_aKeys n_aKeys c_aKeys) d_aKeys) := Lib.hid (⟨A_aKeys, n_aKeys, c_aKeys, rfl, hm_aKeys, h_aKeys⟩)
      have Ha_aMessage : Hid (RdIntS w w.heap.size (.slice A_aMessage n_aMessage c_aMessage) d_aMessage) := Lib.hid (⟨A_aMessage, n_aMessage, c_aMessage, rfl, hm_aMessage, h_aMessage⟩)
      have Ha_aList : Hid (RdTwinS w w.heap.size (.slice A_aList n_aList c_aList) d_aList) := Lib.hid (⟨A_aList, n_aList, c_aList, rfl, hm_aList, h_aList⟩)
      clear h_aKeys h_aMessage h_aList
      go_enter Try.func10, Try.ntmps10
      go_wp2_with fail
      rcases Int.lt_or_le 1048576 (szTwinS d_aList : Nat) with hl1 | hl1
      · refine (L_szTwinS_no _ _ _ _ _ Ha_aList.out (by omega) (by omega) hl1).mono ?_
        rintro e w' ⟨rfl, hb⟩
        have hb2 := Lib.hid hb
        clear hb
        go_wp2
        go_ret
        exact ⟨rfl, hb2.out⟩
      refine (L_szTwinS_ok _ _ _ _ _ Ha_aList.out (by omega) (by omega) hl1).mono ?_
      rintro e w2 ⟨L3, rfl, hx6, h0_4, h1_5, hy7⟩
      have hs_aList : szTwinS d_aList ≤ 1048576 := by omega
      have z8 : w.heap.size ≤ w2.heap.size := hy7.size
      have HS9 := Lib.hid hy7
      clear hy7
      have HB10 : Hid (Below w.heap.size w w2) := Lib.hid (HS9.out.mono (by omega))
      clear HS9
      go_wp2_with fail
      refine (L_toIntS _ _ _ _ (RdIntS.below Ha_aKeys.out HB10.out) HB10.out.size hs_aKeys).mono ?_
      rintro e w12 ⟨v11, rfl, hx16, hy17⟩
      have z15 : w2.heap.size ≤ w12.heap.size := hy17.size
      have HO13 := Lib.hid hx16
      have HS14 := Lib.hid hy17
      clear hx16 hy17
      have HB18 : Hid (Below w.heap.size w w12) := Lib.hid (HB10.out.trans (HS14.out.mono (by omega)))
      clear HB10
      clear HS14
      go_wp2_with fail
      refine (L_toIntS _ _ _ _ (RdIntS.below Ha_aMessage.out HB18.out) HB18.out.size hs_aMessage).mono ?_
      rintro e w20 ⟨v19, rfl, hx24, hy25⟩
      have z23 : w12.heap.size ≤ w20.heap.size := hy25.size
      have HO21 := Lib.hid hx24
      have HS22 := Lib.hid hy25
      clear hx24 hy25
      have HO26 := Lib.hid (HO13.out.below HS22.out (by omega))
      clear HO13
      have HB27 : Hid (Below w.heap.size w w20) := Lib.hid (HB18.out.trans (HS22.out.mono (by omega)))
      clear HB18
      clear HS22
      go_wp2_with fail
      refine (L_toTwinS _ _ _ _ (RdTwinS.below Ha_aList.out HB27.out) HB27.out.size hs_aList).mono ?_
      rintro e w29 ⟨v28, rfl, hx33, hy34⟩
      have z32 : w20.heap.size ≤ w29.heap.size := hy34.size
      have HO30 := Lib.hid hx33
      have HS31 := Lib.hid hy34
      clear hx33 hy34
      have HO35 := Lib.hid (HO26.out.below HS31.out (by omega))
      clear HO26
      have HO36 := Lib.hid (HO21.out.below HS31.out (by omega))
      clear HO21
      have HB37 : Hid (Below w.heap.size w w29) := Lib.hid (HB27.out.trans (HS31.out.mono (by omega)))
      clear HB27
      clear HS31
      go_wp2_with fail
      refine (X_s_LinkGood _ _ _ d_aKeys d_aMessage aTag d_aList _ (HO35.out.rd.more (by omega)) (HO36.out.rd.more (by omega)) (HO30.out.rd.more (by omega)) hs_aKeys hs_aMessage hs_aList).mono ?_
      rintro e w38 ⟨rfl, hy39⟩
      have z40 : w29.heap.size ≤ w38.heap.size := hy39.size
      have HS41 := Lib.hid hy39
      clear hy39
      have HO42 := Lib.hid (HO35.out.below HS41.out (by omega))
      clear HO35
      have HO43 := Lib.hid (HO36.out.below HS41.out (by omega))
      clear HO36
      have HO44 := Lib.hid (HO30.out.below HS41.out (by omega))
      clear HO30
      have HB45 : Hid (Below w.heap.size w w38) := Lib.hid (HB37.out.trans (HS41.out.mono (by omega)))
      clear HB37
      clear HS41
      clear HO42
      clear HO43
      clear HO44
      go_wp2_with fail
      refine (L_toIntS _ _ _ _ (RdIntS.below Ha_aKeys.out HB45.out) HB45.out.size hs_aKeys).mono ?_
      rintro e w47 ⟨v46, rfl, hx51, hy52⟩
      have z50 : w38.heap.size ≤ w47.heap.size := hy52.size
      have HO48 := Lib.hid hx51
      have HS49 := Lib.hid hy52
      clear hx51 hy52
      have HB53 : Hid (Below w.heap.size w w47) := Lib.hid (HB45.out.trans (HS49.out.mono (by omega)))
      clear HB45
      clear HS49
      go_wp2_with fail
      refine (L_toIntS _ _ _ _ (RdIntS.below Ha_aMessage.out HB53.out) HB53.out.size hs_aMessage).mono ?_
      rintro e w55 ⟨v54, rfl, hx59, hy60⟩
      have z58 : w47.heap.size ≤ w55.heap.size := hy60.size
      have HO56 := Lib.hid hx59
      have HS57 := Lib.hid hy60
      clear hx59 hy60
      have HO61 := Lib.hid (HO48.out.below HS57.out (by omega))
      clear HO48
      have HB62 : Hid (Below w.heap.size w w55) := Lib.hid (HB53.out.trans (HS57.out.mono (by omega)))
      clear HB53
      clear HS57
      go_wp2_with fail
      refine (L_toTwinS _ _ _ _ (RdTwinS.below Ha_aList.out HB62.out) HB62.out.size hs_aList).mono ?_
      rintro e w64 ⟨v63, rfl, hx68, hy69⟩
      have z67 : w55.heap.size ≤ w64.heap.size := hy69.size
      have HO65 := Lib.hid hx68
      have HS66 := Lib.hid hy69
      clear hx68 hy69
      have HO70 := Lib.hid (HO61.out.below HS66.out (by omega))
      clear HO61
      have HO71 := Lib.hid (HO56.out.below HS66.out (by omega))
      clear HO56
      have HB72 : Hid (Below w.heap.size w w64) := Lib.hid (HB62.out.trans (HS66.out.mono (by omega)))
      clear HB62
      clear HS66
      go_wp2_with fail
      refine (X_i_LinkGood _ _ _ d_aKeys d_aMessage aTag d_aList _ (HO70.out.rd.more (by omega)) (HO71.out.rd.more (by omega)) (HO65.out.rd.more (by omega)) hs_aKeys hs_aMessage hs_aList).mono ?_
      rintro e w73 ⟨rfl, hy74⟩
      have z75 : w64.heap.size ≤ w73.heap.size := hy74.size
      have HS76 := Lib.hid hy74
      clear hy74
      have HO77 := Lib.hid (HO70.out.below HS76.out (by omega))
      clear HO70
      have HO78 := Lib.hid (HO71.out.below HS76.out (by omega))
      clear HO71
      have HO79 := Lib.hid (HO65.out.below HS76.out (by omega))
      clear HO65
      have HB80 : Hid (Below w.heap.size w w73) := Lib.hid (HB72.out.trans (HS76.out.mono (by omega)))
      clear HB72
      clear HS76
      go_wp2_with fail
      refine (L_toIntS _ _ _ _ (RdIntS.below Ha_aKeys.out HB80.out) HB80.out.size hs_aKeys).mono ?_
      rintro e w82 ⟨v81, rfl, hx86, hy87⟩
      have z85 : w73.heap.size ≤ w82.heap.size := hy87.size
      have HO83 := Lib.hid hx86
      have HS84 := Lib.hid hy87
      clear hx86 hy87
      have HO88 := Lib.hid (HO77.out.below HS84.out (by omega))
      clear HO77
      have HO89 := Lib.hid (HO78.out.below HS84.out (by omega))
      clear HO78
      have HO90 := Lib.hid (HO79.out.below HS84.out (by omega))
      clear HO79
      have HB91 : Hid (Below w.heap.size w w82) := Lib.hid (HB80.out.trans (HS84.out.mono (by omega)))
      clear HB80
      clear HS84
      go_wp2_with fail
      refine (L_eqIntS _ _ _ _ _ _ HO88.out.rd HO83.out.rd (by omega) (by omega) HO88.out.small).mono ?_
      rintro e w92 ⟨rfl, hx93⟩
      have z94 : w82.heap.size ≤ w92.heap.size := hx93.size
      have HS95 := Lib.hid hx93
      clear hx93
      have HO96 := Lib.hid (HO88.out.below HS95.out (by omega))
      clear HO88
      have HO97 := Lib.hid (HO89.out.below HS95.out (by omega))
      clear HO89
      have HO98 := Lib.hid (HO90.out.below HS95.out (by omega))
      clear HO90
      have HO99 := Lib.hid (HO83.out.below HS95.out (by omega))
      clear HO83
      have HB100 : Hid (Below w.heap.size w w92) := Lib.hid (HB91.out.trans (HS95.out.mono (by omega)))
      clear HB91
      clear HS95
      clear HO99
      go_wp2_with fail
      refine (L_toIntS _ _ _ _ (RdIntS.below Ha_aMessage.out HB100.out) HB100.out.size hs_aMessage).mono ?_
      rintro e w102 ⟨v101, rfl, hx106, hy107⟩
      have z105 : w92.heap.size ≤ w102.heap.size := hy107.size
      have HO103 := Lib.hid hx106
      have HS104 := Lib.hid hy107
      clear hx106 hy107
      have HO108 := Lib.hid (HO96.out.below HS104.out (by omega))
      clear HO96
      have HO109 := Lib.hid (HO97.out.below HS104.out (by omega))
      clear HO97
      have HO110 := Lib.hid (HO98.out.below HS104.out (by omega))
      clear HO98
      have HB111 : Hid (Below w.heap.size w w102) := Lib.hid (HB100.out.trans (HS104.out.mono (by omega)))
      clear HB100
      clear HS104
      go_wp2_with fail
      refine (L_eqIntS _ _ _ _ _ _ HO109.out.rd HO103.out.rd (by omega) (by omega) HO109.out.small).mono ?_
      rintro e w112 ⟨rfl, hx113⟩
      have z114 : w102.heap.size ≤ w112.heap.size := hx113.size
      have HS115 := Lib.hid hx113
      clear hx113
      have HO116 := Lib.hid (HO108.out.below HS115.out (by omega))
      clear HO108
      have HO117 := Lib.hid (HO109.out.below HS115.out (by omega))
      clear HO109
      have HO118 := Lib.hid (HO110.out.below HS115.out (by omega))
      clear HO110
      have HO119 := Lib.hid (HO103.out.below HS115.out (by omega))
      clear HO103
      have HB120 : Hid (Below w.heap.size w w112) := Lib.hid (HB111.out.trans (HS115.out.mono (by omega)))
      clear HB111
      clear HS115
      clear HO119
      go_wp2_with fail
      refine (L_toTwinS _ _ _ _ (RdTwinS.below Ha_aList.out HB120.out) HB120.out.size hs_aList).mono ?_
      rintro e w122 ⟨v121, rfl, hx126, hy127⟩
      have z125 : w112.heap.size ≤ w122.heap.size := hy127.size
      have HO123 := Lib.hid hx126
      have HS124 := Lib.hid hy127
      clear hx126 hy127
      have HO128 := Lib.hid (HO116.out.below HS124.out (by omega))
      clear HO116
      have HO129 := Lib.hid (HO117.out.below HS124.out (by omega))
      clear HO117
      have HO130 := Lib.hid (HO118.out.below HS124.out (by omega))
      clear HO118
      have HB131 : Hid (Below w.heap.size w w122) := Lib.hid (HB120.out.trans (HS124.out.mono (by omega)))
      clear HB120
      clear HS124
      go_wp2_with fail
      refine (L_eqTwinS _ _ _ _ _ _ HO130.out.rd HO123.out.rd (by omega) (by omega) HO130.out.small).mono ?_
      rintro e w132 ⟨rfl, hx133⟩
      have z134 : w122.heap.size ≤ w132.heap.size := hx133.size
      have HS135 := Lib.hid hx133
      clear hx133
      have HO136 := Lib.hid (HO128.out.below HS135.out (by omega))
      clear HO128
      have HO137 := Lib.hid (HO129.out.below HS135.out (by omega))
      clear HO129
      have HO138 := Lib.hid (HO130.out.below HS135.out (by omega))
      clear HO130
      have HO139 := Lib.hid (HO123.out.below HS135.out (by omega))
      clear HO123
      have HB140 : Hid (Below w.heap.size w w132) := Lib.hid (HB131.out.trans (HS135.out.mono (by omega)))
      clear HB131
      clear HS135
      clear HO139
      go_wp2
      go_ret
      exact ⟨rfl, HB140.out⟩
    · have hn_aMessage : ¬ n_aMessage ≤ 1048576 := by have := h_aMessage.len; unfold szIntS at hs_aMessage; omega
      go_enter Try.func10, Try.ntmps10
      go_wp2
      go_ret
      exact ⟨rfl, by first | exact Below.refl _ _ | exact (Below.refl _ _).alloc (Nat.le_refl _) _ | exact ((Below.refl _ _).alloc (Nat.le_refl _) _).alloc (by simp) _⟩
  · have hn_aKeys : ¬ n_aKeys ≤ 1048576 := by have := h_aKeys.len; unfold szIntS at hs_aKeys; omega
    go_enter Try.func10, Try.ntmps10
    go_wp2
    go_ret
    exact ⟨rfl, by first | exact Below.refl _ _ | exact (Below.refl _ _).alloc (Nat.le_refl _) _ | exact ((Below.refl _ _).alloc (Nat.le_refl _) _).alloc (by simp) _⟩

set_option maxRecDepth 100000 in
theorem lifted (os : Os) (started : os.Started) (H : Type) (enc : TypeId × Value → H) :
    ReturnsInHanded {} Try.checked os 10 .any (Rows.fnExactLinkGoodSpec.pre6 enc Try.prog Try.f10 Rows.fnExactLinkGoodRow.domain false) (Rows.fnExactLinkGoodSpec.post enc Try.prog Try.f10 false true false false) := by
  refine returnsInHanded_of_change (C := Try.checked) own started (by kernel_rfl) Try.func10
    (ChangeSpec.witness6 (enc := enc) (C := Try.checked) false ⟨#[], #[.slice none 0 0, .slice none 0 0, .int .i64 0, .slice none 0 0], []⟩ 8 (by kernel_rfl) (by kernel_rfl) (by kernel_rfl) (by kernel_rfl)) ?_
  intro W base args ds gs before hval0 hW hcnd _
  have hval : ∀ (j : Nat) t v, Try.f10.params[j]? = some t → args[j]? = some v → Value.okWide Try.prog W .any base t v := hval0
  have hW' := hW
  obtain ⟨p, q, hA0, hV, rfl, hfz, hnd⟩ := hW
  have hA : DataW.TrodAll enc Try.prog W 0 (fun _ => true) true Try.f10.params.toList args.toList ds p := hA0
  rw [Try.params10] at hA hval
  obtain ⟨v0, vs0, dd0, ds0, p0, q0, hargs, rfl, rfl, h0, r0⟩ := trodAll_cons hA
  obtain ⟨v1, vs1, dd1, ds1, p1, q1, rfl, rfl, rfl, h1, r1⟩ := trodAll_cons r0
  obtain ⟨v2, vs2, dd2, ds2, p2, q2, rfl, rfl, rfl, h2, r2⟩ := trodAll_cons r1
  obtain ⟨v3, vs3, dd3, ds3, p3, q3, rfl, rfl, rfl, h3, r3⟩ := trodAll_cons r2
  obtain ⟨rfl, rfl, rfl⟩ := trodAll_nil r3
  obtain rfl : args = #[v0, v1, v2, v3] := by cases args; simp_all
  obtain ⟨rfl, rfl⟩ := trodVars_none hV
  obtain ⟨A_aKeys, n_aKeys, c_aKeys, d_aKeys, rfl, hm_aKeys, h_aKeys⟩ := open_intS Try.underlying22 Try.underlying3 (by kernel_rfl) (hval 0 22 v0 rfl rfl) h0
  obtain ⟨A_aMessage, n_aMessage, c_aMessage, d_aMessage, rfl, hm_aMessage, h_aMessage⟩ := open_intS Try.underlying22 Try.underlying3 (by kernel_rfl) (hval 1 22 v1 rfl rfl) h1
  obtain ⟨aTag, rfl, rfl, rfl, w_aTag⟩ := open_int Try.underlying3 (hval 2 3 v2 rfl rfl) h2
  obtain ⟨A_aList, n_aList, c_aList, d_aList, rfl, hm_aList, h_aList⟩ := open_TwinS Try.underlying52 Try.underlying119 (by kernel_rfl) rfl rfl rfl rfl (by kernel_rfl) (by kernel_rfl) (by kernel_rfl) (by kernel_rfl) Try.underlying3 Try.underlying3 Try.underlying3 Try.underlying3 (hval 3 52 v3 rfl rfl) h3
  refine (walk A_aKeys n_aKeys c_aKeys d_aKeys A_aMessage n_aMessage c_aMessage d_aMessage aTag A_aList n_aList c_aList d_aList W hm_aKeys h_aKeys hm_aMessage h_aMessage w_aTag hm_aList h_aList).mono fun e W' ⟨he, hb⟩ => ?_
  subst he
  exact ⟨_, rfl, post_law rfl rfl Try.underlying4 (by kernel_rfl) (by kernel_rfl) hW' rfl hb⟩

theorem closed : joinedFacts Try.prog 10 Try.f10 Rows.fnExactLinkGoodSpec Rows.fnExactLinkGoodRow = true := joined_of (by kernel_rfl)
theorem over : Rows.fnExactLinkGoodRow.holds Try.pinned (OpenSpec.ofChange Rows.fnExactLinkGoodSpec) :=
  OpenClaim.holds_of_wide 10 Try.f10 rfl rfl rfl rfl rfl rfl rfl ⟨rfl, rfl, rfl, rfl, rfl⟩ rfl rfl rfl rfl rfl (by kernel_rfl) Try.func10 closed
    (of_decide_eq_true (by kernel_rfl)) (by unfold Func.isWrapper; first | (rw [if_pos (by decide +kernel)]; kernel_rfl) | (rw [if_neg (by decide +kernel)]; exact ⟨rfl, rfl⟩))
    (fun os started H enc _ => lifted os started H enc)
/-- the statement -/
theorem proved : Rows.FnExactLinkGoodSaid :=
  over
end Go.Proofs.Ytalokhilodlhfaa.fnExactLinkGood
