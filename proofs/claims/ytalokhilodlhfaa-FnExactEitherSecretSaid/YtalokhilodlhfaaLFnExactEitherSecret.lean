/- FnExactEitherSecret answers true at every input: at each argument the function and its model answer alike, no argument is written, and the answer owns its memory. No condition. -/
import Derived.Test.YtalokhilodlhfaaRows
import Derived.Test.YtalokhilodlhfaaLaw
import Derived.Test.YtalokhilodlhfaaDoor
import Derived.Test.YtalokhilodlhfaaWalk15d
import Derived.Test.YtalokhilodlhfaaOpenP
import Derived.Test.YtalokhilodlhfaaFaceI
namespace Go.Proofs.Ytalokhilodlhfaa.fnExactEitherSecret
open Go.ChangeShapes Go.WideShapes Go.ChangeAt Go.RowKit
theorem own : ownKnob Try.prog.godebug = none := by kernel_rfl
set_option maxRecDepth 100000 in
set_option maxHeartbeats 4000000 in
theorem walk (A_aKeys : Option Addr) (n_aKeys c_aKeys : Nat) (d_aKeys : List Int) (A_aA : Option Addr) (n_aA c_aA : Nat) (d_aA : List (Int × Int × Int)) (A_aB : Option Addr) (n_aB c_aB : Nat) (d_aB : List (Int × Int × Int)) (w : World) (hm_aKeys : n_aKeys ≤ 9223372036854775807) (h_aKeys : Rd w w.heap.size 1 A_aKeys n_aKeys (cI d_aKeys)) (hm_aA : n_aA ≤ 9223372036854775807) (h_aA : Rd w w.heap.size 3 A_aA n_aA (cProof d_aA)) (hm_aB : n_aB ≤ 9223372036854775807) (h_aB : Rd w w.heap.size 3 A_aB n_aB (cProof d_aB)) :
    Calls Try.prog 5 #[.slice A_aKeys n_aKeys c_aKeys, .slice A_aA n_aA c_aA, .slice A_aB n_aB c_aB] w fun e w' => e = .returned (.bool true) ∧ Below w.heap.size w w' := by
  by_cases hs_aKeys : szIntS d_aKeys ≤ 1048576
  · have hn_aKeys : n_aKeys ≤ 1048576 := by have := h_aKeys.len; unfold szIntS at hs_aKeys; omega
    have Ha_aKeys : Hid (RdIntS w w.heap.size (.slice A_aKeys n_aKeys c_aKeys) d_aKeys) := Lib.hid (⟨A_aKeys, n_aKeys, c_aKeys, rfl, hm_aKeys, h_aKeys⟩)
    have Ha_aA : Hid (RdProofS w w.heap.size (.slice A_aA n_aA c_aA) d_aA) := Lib.hid (⟨A_aA, n_aA, c_aA, rfl, hm_aA, h_aA⟩)
    have Ha_aB : Hid (RdProofS w w.heap.size (.slice A_aB n_aB c_aB) d_aB) := Lib.hid (⟨A_aB, n_aB, c_aB, rfl, hm_aB, h_aB⟩)
    clear h_aKeys h_aA h_aB
    go_enter Try.func5, Try.ntmps5
    go_wp2_with fail
    rcases Int.lt_or_le 1048576 (szProofS d_aA : Nat) with hl1 | hl1
    · refine (L_szProofS_no _ _ _ _ _ Ha_aA.out (by omega) (by omega) hl1).mono ?_
      rintro e w' ⟨rfl, hb⟩
      have hb2 := Lib.hid hb
      clear hb
      go_wp2
      go_ret
      exact ⟨rfl, hb2.out⟩
    refine (L_szProofS_ok _ _ _ _ _ Ha_aA.out (by omega) (by omega) hl1).mono ?_
    rintro e w2 ⟨L3, rfl, hx6, h0_4, h1_5, hy7⟩
    have hs_aA : szProofS d_aA ≤ 1048576 := by omega
    have z8 : w.heap.size ≤ w2.heap.size := hy7.size
    have HS9 := Lib.hid hy7
    clear hy7
    have HB10 : Hid (Below w.heap.size w w2) := Lib.hid (HS9.out.mono (by omega))
    clear HS9
    go_wp2_with fail
    rcases Int.lt_or_le L3 (szProofS d_aB : Nat) with hl11 | hl11
    · refine (L_szProofS_no _ _ _ _ _ (RdProofS.below Ha_aB.out HB10.out) (by omega) (by omega) hl11).mono ?_
      rintro e w' ⟨rfl, hb⟩
      have hb2 := Lib.hid (HB10.out.trans (hb.mono (by omega)))
      clear hb
      go_wp2
      go_ret
      exact ⟨rfl, hb2.out⟩
    refine (L_szProofS_ok _ _ _ _ _ (RdProofS.below Ha_aB.out HB10.out) (by omega) (by omega) hl11).mono ?_
    rintro e w12 ⟨L13, rfl, hx16, h0_14, h1_15, hy17⟩
    have hs_aB : szProofS d_aB ≤ 1048576 := by omega
    have z18 : w2.heap.size ≤ w12.heap.size := hy17.size
    have HS19 := Lib.hid hy17
    clear hy17
    have HB20 : Hid (Below w.heap.size w w12) := Lib.hid (HB10.out.trans (HS19.out.mono (by omega)))
    clear HB10
    clear HS19
    go_wp2_with fail
    refine (L_toIntS _ _ _ _ (RdIntS.below Ha_aKeys.out HB20.out) HB20.out.size hs_aKeys).mono ?_
    rintro e w22 ⟨v21, rfl, hx26, hy27⟩
    have z25 : w12.heap.size ≤ w22.heap.size := hy27.size
    have HO23 := Lib.hid hx26
    have HS24 := Lib.hid hy27
    clear hx26 hy27
    have HB28 : Hid (Below w.heap.size w w22) := Lib.hid (HB20.out.trans (HS24.out.mono (by omega)))
    clear HB20
    clear HS24
    go_wp2_with fail
    refine (L_toProofS _ _ _ _ (RdProofS.below Ha_aA.out HB28.out) HB28.out.size hs_aA).mono ?_
    rintro e w30 ⟨v29, rfl, hx34, hy35⟩
    have z33 : w22.heap.size ≤ w30.heap.size := hy35.size
    have HO31 := Lib.hid hx34
    have HS32 := Lib.hid hy35
    clear hx34 hy35
    have HO36 := Lib.hid (HO23.out.below HS32.out (by omega))
    clear HO23
    have HB37 : Hid (Below w.heap.size w w30) := Lib.hid (HB28.out.trans (HS32.out.mono (by omega)))
    clear HB28
    clear HS32
    go_wp2_with fail
    refine (L_toProofS _ _ _ _ (RdProofS.below Ha_aB.out HB37.out) HB37.out.size hs_aB).mono ?_
    rintro e w39 ⟨v38, rfl, hx43, hy44⟩
    have z42 : w30.heap.size ≤ w39.heap.size := hy44.size
    have HO40 := Lib.hid hx43
    have HS41 := Lib.hid hy44
    clear hx43 hy44
    have HO45 := Lib.hid (HO36.out.below HS41.out (by omega))
    clear HO36
    have HO46 := Lib.hid (HO31.out.below HS41.out (by omega))
    clear HO31
    have HB47 : Hid (Below w.heap.size w w39) := Lib.hid (HB37.out.trans (HS41.out.mono (by omega)))
    clear HB37
    clear HS41
    go_wp2_with fail
    refine (X_s_EitherSecret _ _ _ d_aKeys d_aA d_aB _ (HO45.out.rd.more (by omega)) (HO46.out.rd.more (by omega)) (HO40.out.rd.more (by omega)) hs_aKeys hs_aA hs_aB).mono ?_
    rintro e w48 ⟨rfl, hy49⟩
    have z50 : w39.heap.size ≤ w48.heap.size := hy49.size
    have HS51 := Lib.hid hy49
    clear hy49
    have HO52 := Lib.hid (HO45.out.below HS51.out (by omega))
    clear HO45
    have HO53 := Lib.hid (HO46.out.below HS51.out (by omega))
    clear HO46
    have HO54 := Lib.hid (HO40.out.below HS51.out (by omega))
    clear HO40
    have HB55 : Hid (Below w.heap.size w w48) := Lib.hid (HB47.out.trans (HS51.out.mono (by omega)))
    clear HB47
    clear HS51
    clear HO52
    clear HO53
    clear HO54
    go_wp2_with fail
    refine (L_toIntS _ _ _ _ (RdIntS.below Ha_aKeys.out HB55.out) HB55.out.size hs_aKeys).mono ?_
    rintro e w57 ⟨v56, rfl, hx61, hy62⟩
    have z60 : w48.heap.size ≤ w57.heap.size := hy62.size
    have HO58 := Lib.hid hx61
    have HS59 := Lib.hid hy62
    clear hx61 hy62
    have HB63 : Hid (Below w.heap.size w w57) := Lib.hid (HB55.out.trans (HS59.out.mono (by omega)))
    clear HB55
    clear HS59
    go_wp2_with fail
    refine (L_toProofS _ _ _ _ (RdProofS.below Ha_aA.out HB63.out) HB63.out.size hs_aA).mono ?_
    rintro e w65 ⟨v64, rfl, hx69, hy70⟩
    have z68 : w57.heap.size ≤ w65.heap.size := hy70.size
    have HO66 := Lib.hid hx69
    have HS67 := Lib.hid hy70
    clear hx69 hy70
    have HO71 := Lib.hid (HO58.out.below HS67.out (by omega))
    clear HO58
    have HB72 : Hid (Below w.heap.size w w65) := Lib.hid (HB63.out.trans (HS67.out.mono (by omega)))
    clear HB63
    clear HS67
    go_wp2_with fail
    refine (L_toProofS _ _ _ _ (RdProofS.below Ha_aB.out HB72.out) HB72.out.size hs_aB).mono ?_
    rintro e w74 ⟨v73, rfl, hx78, hy79⟩
    have z77 : w65.heap.size ≤ w74.heap.size := hy79.size
    have HO75 := Lib.hid hx78
    have HS76 := Lib.hid hy79
    clear hx78 hy79
    have HO80 := Lib.hid (HO71.out.below HS76.out (by omega))
    clear HO71
    have HO81 := Lib.hid (HO66.out.below HS76.out (by omega))
    clear HO66
    have HB82 : Hid (Below w.heap.size w w74) := Lib.hid (HB72.out.trans (HS76.out.mono (by omega)))
    clear HB72
    clear HS76
    go_wp2_with fail
    refine (X_i_EitherSecret _ _ _ d_aKeys d_aA d_aB _ (HO80.out.rd.more (by omega)) (HO81.out.rd.more (by omega)) (HO75.out.rd.more (by omega)) hs_aKeys hs_aA hs_aB).mono ?_
    rintro e w83 ⟨rfl, hy84⟩
    have z85 : w74.heap.size ≤ w83.heap.size := hy84.size
    have HS86 := Lib.hid hy84
    clear hy84
    have HO87 := Lib.hid (HO80.out.below HS86.out (by omega))
    clear HO80
    have HO88 := Lib.hid (HO81.out.below HS86.out (by omega))
    clear HO81
    have HO89 := Lib.hid (HO75.out.below HS86.out (by omega))
    clear HO75
    have HB90 : Hid (Below w.heap.size w w83) := Lib.hid (HB82.out.trans (HS86.out.mono (by omega)))
    clear HB82
    clear HS86
    go_wp2_with fail
    refine (L_toIntS _ _ _ _ (RdIntS.below Ha_aKeys.out HB90.out) HB90.out.size hs_aKeys).mono ?_
    rintro e w92 ⟨v91, rfl, hx96, hy97⟩
    have z95 : w83.heap.size ≤ w92.heap.size := hy97.size
    have HO93 := Lib.hid hx96
    have HS94 := Lib.hid hy97
    clear hx96 hy97
    have HO98 := Lib.hid (HO87.out.below HS94.out (by omega))
    clear HO87
    have HO99 := Lib.hid (HO88.out.below HS94.out (by omega))
    clear HO88
    have HO100 := Lib.hid (HO89.out.below HS94.out (by omega))
    clear HO89
    have HB101 : Hid (Below w.heap.size w w92) := Lib.hid (HB90.out.trans (HS94.out.mono (by omega)))
    clear HB90
    clear HS94
    go_wp2_with fail
    refine (L_eqIntS _ _ _ _ _ _ HO98.out.rd HO93.out.rd (by omega) (by omega) HO98.out.small).mono ?_
    rintro e w102 ⟨rfl, hx103⟩
    have z104 : w92.heap.size ≤ w102.heap.size := hx103.size
    have HS105 := Lib.hid hx103
    clear hx103
    have HO106 := Lib.hid (HO98.out.below HS105.out (by omega))
    clear HO98
    have HO107 := Lib.hid (HO99.out.below HS105.out (by omega))
    clear HO99
    have HO108 := Lib.hid (HO100.out.below HS105.out (by omega))
    clear HO100
    have HO109 := Lib.hid (HO93.out.below HS105.out (by omega))
    clear HO93
    have HB110 : Hid (Below w.heap.size w w102) := Lib.hid (HB101.out.trans (HS105.out.mono (by omega)))
    clear HB101
    clear HS105
    clear HO109
    go_wp2_with fail
    refine (L_toProofS _ _ _ _ (RdProofS.below Ha_aA.out HB110.out) HB110.out.size hs_aA).mono ?_
    rintro e w112 ⟨v111, rfl, hx116, hy117⟩
    have z115 : w102.heap.size ≤ w112.heap.size := hy117.size
    have HO113 := Lib.hid hx116
    have HS114 := Lib.hid hy117
    clear hx116 hy117
    have HO118 := Lib.hid (HO106.out.below HS114.out (by omega))
    clear HO106
    have HO119 := Lib.hid (HO107.out.below HS114.out (by omega))
    clear HO107
    have HO120 := Lib.hid (HO108.out.below HS114.out (by omega))
    clear HO108
    have HB121 : Hid (Below w.heap.size w w112) := Lib.hid (HB110.out.trans (HS114.out.mono (by omega)))
    clear HB110
    clear HS114
    go_wp2_with fail
    refine (L_eqProofS _ _ _ _ _ _ HO119.out.rd HO113.out.rd (by omega) (by omega) HO119.out.small).mono ?_
    rintro e w122 ⟨rfl, hx123⟩
    have z124 : w112.heap.size ≤ w122.heap.size := hx123.size
    have HS125 := Lib.hid hx123
    clear hx123
    have HO126 := Lib.hid (HO118.out.below HS125.out (by omega))
    clear HO118
    have HO127 := Lib.hid (HO119.out.below HS125.out (by omega))
    clear HO119
    have HO128 := Lib.hid (HO120.out.below HS125.out (by omega))
    clear HO120
    have HO129 := Lib.hid (HO113.out.below HS125.out (by omega))
    clear HO113
    have HB130 : Hid (Below w.heap.size w w122) := Lib.hid (HB121.out.trans (HS125.out.mono (by omega)))
    clear HB121
    clear HS125
    clear HO129
    go_wp2_with fail
    refine (L_toProofS _ _ _ _ (RdProofS.below Ha_aB.out HB130.out) HB130.out.size hs_aB).mono ?_
    rintro e w132 ⟨v131, rfl, hx136, hy137⟩
    have z135 : w122.heap.size ≤ w132.heap.size := hy137.size
    have HO133 := Lib.hid hx136
    have HS134 := Lib.hid hy137
    clear hx136 hy137
    have HO138 := Lib.hid (HO126.out.below HS134.out (by omega))
    clear HO126
    have HO139 := Lib.hid (HO127.out.below HS134.out (by omega))
    clear HO127
    have HO140 := Lib.hid (HO128.out.below HS134.out (by omega))
    clear HO128
    have HB141 : Hid (Below w.heap.size w w132) := Lib.hid (HB130.out.trans (HS134.out.mono (by omega)))
    clear HB130
    clear HS134
    go_wp2_with fail
    refine (L_eqProofS _ _ _ _ _ _ HO140.out.rd HO133.out.rd (by omega) (by omega) HO140.out.small).mono ?_
    rintro e w142 ⟨rfl, hx143⟩
    have z144 : w132.heap.size ≤ w142.heap.size := hx143.size
    have HS145 := Lib.hid hx143
    clear hx143
    have HO146 := Lib.hid (HO138.out.below HS145.out (by omega))
    clear HO138
    have HO147 := Lib.hid (HO139.out.below HS145.out (by omega))
    clear HO139
    have HO148 := Lib.hid (HO140.out.below HS145.out (by omega))
    clear HO140
    have HO149 := Lib.hid (HO133.out.below HS145.out (by omega))
    clear HO133
    have HB150 : Hid (Below w.heap.size w w142) := Lib.hid (HB141.out.trans (HS145.out.mono (by omega)))
    clear HB141
    clear HS145
    clear HO149
    go_wp2
    go_ret
    exact ⟨rfl, HB150.out⟩
  · have hn_aKeys : ¬ n_aKeys ≤ 1048576 := by have := h_aKeys.len; unfold szIntS at hs_aKeys; omega
    go_enter Try.func5, Try.ntmps5
    go_wp2
    go_ret
    exact ⟨rfl, by first | exact Below.refl _ _ | exact (Below.refl _ _).alloc (Nat.le_refl _) _ | exact ((Below.refl _ _).alloc (Nat.le_refl _) _).alloc (by simp) _⟩

set_option maxRecDepth 100000 in
theorem lifted (os : Os) (started : os.Started) (H : Type) (enc : TypeId × Value → H) :
    ReturnsInHanded {} Try.checked os 5 .any (Rows.fnExactEitherSecretSpec.pre6 enc Try.prog Try.f5 Rows.fnExactEitherSecretRow.domain false) (Rows.fnExactEitherSecretSpec.post enc Try.prog Try.f5 false true false false) := by
  refine returnsInHanded_of_change (C := Try.checked) own started (by kernel_rfl) Try.func5
    (ChangeSpec.witness6 (enc := enc) (C := Try.checked) false ⟨#[], #[.slice none 0 0, .slice none 0 0, .slice none 0 0], []⟩ 8 (by kernel_rfl) (by kernel_rfl) (by kernel_rfl) (by kernel_rfl)) ?_
  intro W base args ds gs before hval0 hW hcnd _
  have hval : ∀ (j : Nat) t v, Try.f5.params[j]? = some t → args[j]? = some v → Value.okWide Try.prog W .any base t v := hval0
  have hW' := hW
  obtain ⟨p, q, hA0, hV, rfl, hfz, hnd⟩ := hW
  have hA : DataW.TrodAll enc Try.prog W 0 (fun _ => true) true Try.f5.params.toList args.toList ds p := hA0
  rw [Try.params5] at hA hval
  obtain ⟨v0, vs0, dd0, ds0, p0, q0, hargs, rfl, rfl, h0, r0⟩ := trodAll_cons hA
  obtain ⟨v1, vs1, dd1, ds1, p1, q1, rfl, rfl, rfl, h1, r1⟩ := trodAll_cons r0
  obtain ⟨v2, vs2, dd2, ds2, p2, q2, rfl, rfl, rfl, h2, r2⟩ := trodAll_cons r1
  obtain ⟨rfl, rfl, rfl⟩ := trodAll_nil r2
  obtain rfl : args = #[v0, v1, v2] := by cases args; simp_all
  obtain ⟨rfl, rfl⟩ := trodVars_none hV
  obtain ⟨A_aKeys, n_aKeys, c_aKeys, d_aKeys, rfl, hm_aKeys, h_aKeys⟩ := open_intS Try.underlying22 Try.underlying3 (by kernel_rfl) (hval 0 22 v0 rfl rfl) h0
  obtain ⟨A_aA, n_aA, c_aA, d_aA, rfl, hm_aA, h_aA⟩ := open_ProofS Try.underlying32 Try.underlying87 (by kernel_rfl) rfl rfl rfl (by kernel_rfl) (by kernel_rfl) (by kernel_rfl) Try.underlying3 Try.underlying3 Try.underlying3 (hval 1 32 v1 rfl rfl) h1
  obtain ⟨A_aB, n_aB, c_aB, d_aB, rfl, hm_aB, h_aB⟩ := open_ProofS Try.underlying32 Try.underlying87 (by kernel_rfl) rfl rfl rfl (by kernel_rfl) (by kernel_rfl) (by kernel_rfl) Try.underlying3 Try.underlying3 Try.underlying3 (hval 2 32 v2 rfl rfl) h2
  refine (walk A_aKeys n_aKeys c_aKeys d_aKeys A_aA n_aA c_aA d_aA A_aB n_aB c_aB d_aB W hm_aKeys h_aKeys hm_aA h_aA hm_aB h_aB).mono fun e W' ⟨he, hb⟩ => ?_
  subst he
  exact ⟨_, rfl, post_law rfl rfl Try.underlying4 (by kernel_rfl) (by kernel_rfl) hW' rfl hb⟩

theorem closed : joinedFacts Try.prog 5 Try.f5 Rows.fnExactEitherSecretSpec Rows.fnExactEitherSecretRow = true := joined_of (by kernel_rfl)
theorem over : Rows.fnExactEitherSecretRow.holds Try.pinned (OpenSpec.ofChange Rows.fnExactEitherSecretSpec) :=
  OpenClaim.holds_of_wide 5 Try.f5 rfl rfl rfl rfl rfl rfl rfl ⟨rfl, rfl, rfl, rfl, rfl⟩ rfl rfl rfl rfl rfl (by kernel_rfl) Try.func5 closed
    (of_decide_eq_true (by kernel_rfl)) (by unfold Func.isWrapper; first | (rw [if_pos (by decide +kernel)]; kernel_rfl) | (rw [if_neg (by decide +kernel)]; exact ⟨rfl, rfl⟩))
    (fun os started H enc _ => lifted os started H enc)
/-- the statement -/
theorem proved : Rows.FnExactEitherSecretSaid :=
  over
end Go.Proofs.Ytalokhilodlhfaa.fnExactEitherSecret
