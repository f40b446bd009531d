/- FnExactManyAsk answers true at every input: at each argument the function and its model answer alike, no argument is written, and the answer owns its memory. No condition. -/
import Derived.Test.YtbabkaofhhaneaaRows
import Derived.Test.YtbabkaofhhaneaaLaw
import Derived.Test.YtbabkaofhhaneaaDoor
import Derived.Test.YtbabkaofhhaneaaFaceP
import Derived.Test.YtbabkaofhhaneaaMFnExactManyExplain
namespace Go.Proofs.Ytbabkaofhhaneaa.fnExactManyAsk
open Go.ChangeShapes Go.WideShapes Go.ChangeAt Go.RowKit
theorem own : ownKnob Try.prog.godebug = none := by kernel_rfl
set_option maxRecDepth 100000 in
set_option maxHeartbeats 4000000 in
theorem walk (aIndex : Int) (aN : Int) (A_aTape : Option Addr) (n_aTape c_aTape : Nat) (d_aTape : List Int) (w : World) (_w_aIndex : (Lit.int .i64 aIndex).wf = true) (_w_aN : (Lit.int .i64 aN).wf = true) (hm_aTape : n_aTape ≤ 9223372036854775807) (h_aTape : Rd w w.heap.size 1 A_aTape n_aTape (cI d_aTape)) :
    Calls Try.prog 7 #[.int .i64 aIndex, .int .i64 aN, .slice A_aTape n_aTape c_aTape] w fun e w' => e = .returned (.bool true) ∧ Below w.heap.size w w' := by
  by_cases hs_aTape : szIntS d_aTape ≤ 1048576
  · have hn_aTape : n_aTape ≤ 1048576 := by have := h_aTape.len; unfold szIntS at hs_aTape; omega
    have Ha_aTape : Hid (RdIntS w w.heap.size (.slice A_aTape n_aTape c_aTape) d_aTape) := Lib.hid (⟨A_aTape, n_aTape, c_aTape, rfl, hm_aTape, h_aTape⟩)
    clear h_aTape
    go_enter Try.func7, Try.ntmps7
    go_wp2_with fail
    refine (L_toIntS _ _ _ _ Ha_aTape.out (Nat.le_refl _) hs_aTape).mono ?_
    rintro e w2 ⟨v1, rfl, hx6, hy7⟩
    have z5 : w.heap.size ≤ w2.heap.size := hy7.size
    have HO3 := Lib.hid hx6
    have HS4 := Lib.hid hy7
    clear hx6 hy7
    have HB8 : Hid (Below w.heap.size w w2) := Lib.hid (HS4.out.mono (by omega))
    clear HS4
    go_wp2_with fail
    refine (X_s_ManyAsk _ aIndex aN d_aTape _ (HO3.out.rd.more (by omega)) hs_aTape).mono ?_
    rintro e w9 ⟨w0_w9, rfl, hx10, hy11⟩
    have z12 : w2.heap.size ≤ w9.heap.size := hy11.size
    have HO13 := Lib.hid hx10
    clear hx10
    have HS14 := Lib.hid hy11
    clear hy11
    have HO15 := Lib.hid (HO3.out.below HS14.out (by omega))
    clear HO3
    have HB16 : Hid (Below w.heap.size w w9) := Lib.hid (HB8.out.trans (HS14.out.mono (by omega)))
    clear HB8
    clear HS14
    clear HO15
    go_wp2_with fail
    refine (L_toIntS _ _ _ _ (RdIntS.below Ha_aTape.out HB16.out) HB16.out.size hs_aTape).mono ?_
    rintro e w18 ⟨v17, rfl, hx22, hy23⟩
    have z21 : w9.heap.size ≤ w18.heap.size := hy23.size
    have HO19 := Lib.hid hx22
    have HS20 := Lib.hid hy23
    clear hx22 hy23
    have HO24 := Lib.hid (HO13.out.below HS20.out (by omega))
    clear HO13
    have HB25 : Hid (Below w.heap.size w w18) := Lib.hid (HB16.out.trans (HS20.out.mono (by omega)))
    clear HB16
    clear HS20
    go_wp2_with fail
    refine (X_i_ManyAsk _ aIndex aN d_aTape _ (HO19.out.rd.more (by omega)) hs_aTape).mono ?_
    rintro e w26 ⟨g0_w26, rfl, hx27, hy28⟩
    have z29 : w18.heap.size ≤ w26.heap.size := hy28.size
    have HO30 := Lib.hid hx27
    clear hx27
    have HS31 := Lib.hid hy28
    clear hy28
    have HO32 := Lib.hid (HO24.out.below HS31.out (by omega))
    clear HO24
    have HO33 := Lib.hid (HO19.out.below HS31.out (by omega))
    clear HO19
    have HB34 : Hid (Below w.heap.size w w26) := Lib.hid (HB25.out.trans (HS31.out.mono (by omega)))
    clear HB25
    clear HS31
    go_wp2_with fail
    refine (L_eqIntS _ _ _ _ _ _ HO30.out.rd HO32.out.rd (by omega) (by omega) HO30.out.small).mono ?_
    rintro e w35 ⟨rfl, hx36⟩
    have z37 : w26.heap.size ≤ w35.heap.size := hx36.size
    have HS38 := Lib.hid hx36
    clear hx36
    have HO39 := Lib.hid (HO32.out.below HS38.out (by omega))
    clear HO32
    have HO40 := Lib.hid (HO33.out.below HS38.out (by omega))
    clear HO33
    have HO41 := Lib.hid (HO30.out.below HS38.out (by omega))
    clear HO30
    have HB42 : Hid (Below w.heap.size w w35) := Lib.hid (HB34.out.trans (HS38.out.mono (by omega)))
    clear HB34
    clear HS38
    go_wp2_with fail
    refine (L_toIntS _ _ _ _ (RdIntS.below Ha_aTape.out HB42.out) HB42.out.size hs_aTape).mono ?_
    rintro e w44 ⟨v43, rfl, hx48, hy49⟩
    have z47 : w35.heap.size ≤ w44.heap.size := hy49.size
    have HO45 := Lib.hid hx48
    have HS46 := Lib.hid hy49
    clear hx48 hy49
    have HO50 := Lib.hid (HO39.out.below HS46.out (by omega))
    clear HO39
    have HO51 := Lib.hid (HO40.out.below HS46.out (by omega))
    clear HO40
    have HO52 := Lib.hid (HO41.out.below HS46.out (by omega))
    clear HO41
    have HB53 : Hid (Below w.heap.size w w44) := Lib.hid (HB42.out.trans (HS46.out.mono (by omega)))
    clear HB42
    clear HS46
    go_wp2_with fail
    refine (L_eqIntS _ _ _ _ _ _ HO51.out.rd HO45.out.rd (by omega) (by omega) HO51.out.small).mono ?_
    rintro e w54 ⟨rfl, hx55⟩
    have z56 : w44.heap.size ≤ w54.heap.size := hx55.size
    have HS57 := Lib.hid hx55
    clear hx55
    have HO58 := Lib.hid (HO50.out.below HS57.out (by omega))
    clear HO50
    have HO59 := Lib.hid (HO51.out.below HS57.out (by omega))
    clear HO51
    have HO60 := Lib.hid (HO52.out.below HS57.out (by omega))
    clear HO52
    have HO61 := Lib.hid (HO45.out.below HS57.out (by omega))
    clear HO45
    have HB62 : Hid (Below w.heap.size w w54) := Lib.hid (HB53.out.trans (HS57.out.mono (by omega)))
    clear HB53
    clear HS57
    clear HO61
    go_wp2_with fail
    refine (L_markIntS _ _ _ _ _ _ HO59.out (by omega) (by omega) (by omega)).mono ?_
    rintro e w63 ⟨K64, rfl, hk65, h0_66, h1_67, hx68, hy69⟩
    have z70 : w54.heap.size ≤ w63.heap.size := hy69.size
    have HO71 := Lib.hid hx68
    have HS72 := Lib.hid hy69
    clear hx68 hy69
    have HO73 := Lib.hid (HO58.out.kept HS72.out (by omega) (by omega))
    clear HO58
    have HO74 := Lib.hid (HO60.out.kept HS72.out (by omega) (by omega))
    clear HO60
    have HB75 : Hid (Below w.heap.size w w63) := Lib.hid (HB62.out.trans ((HS72.out.to_below (by omega)).mono (by omega)))
    clear HB62
    clear HS72 HO59
    clear HO71
    go_wp2_with fail
    refine (L_eqIntS _ _ _ _ _ _ HO74.out.rd HO73.out.rd (by omega) (by omega) HO74.out.small).mono ?_
    rintro e w76 ⟨rfl, hx77⟩
    have z78 : w63.heap.size ≤ w76.heap.size := hx77.size
    have HS79 := Lib.hid hx77
    clear hx77
    have HO80 := Lib.hid (HO73.out.below HS79.out (by omega))
    clear HO73
    have HO81 := Lib.hid (HO74.out.below HS79.out (by omega))
    clear HO74
    have HB82 : Hid (Below w.heap.size w w76) := Lib.hid (HB75.out.trans (HS79.out.mono (by omega)))
    clear HB75
    clear HS79
    have hs83 := HO81.out.small
    go_wp2_with fail
    refine (L_markIntS _ _ _ _ _ _ HO81.out (by omega) (by omega) (by omega)).mono ?_
    rintro e w84 ⟨K85, rfl, hk86, h0_87, h1_88, hx89, hy90⟩
    have z91 : w76.heap.size ≤ w84.heap.size := hy90.size
    have HO92 := Lib.hid hx89
    have HS93 := Lib.hid hy90
    clear hx89 hy90
    have HO94 := Lib.hid (HO80.out.kept HS93.out (by omega) (by omega))
    clear HO80
    have HB95 : Hid (Below w.heap.size w w84) := Lib.hid (HB82.out.trans ((HS93.out.to_below (by omega)).mono (by omega)))
    clear HB82
    clear HS93 HO81
    go_wp2_with fail
    refine (L_heldIntS _ _ (R_ManyAsk_0 aIndex aN d_aTape) 1 _ _ HO92.out.rd (by omega) hs83 (Lib.hid rfl) (by omega) (by omega)).mono ?_
    rintro e w96 ⟨K97, rfl, hk98, h0_99, h1_100, hx101⟩
    have z102 : w84.heap.size ≤ w96.heap.size := hx101.size
    have HS103 := Lib.hid hx101
    clear hx101
    have HE104 : Hid (K97 = K85) := Lib.hid (by rw [hk98.out, hk86.out])
    have hne105 : (K97 != K85) = false := by rw [HE104.out]; simp
    have HO106 := Lib.hid (HO94.out.below HS103.out (by omega))
    clear HO94
    have HO107 := Lib.hid (HO92.out.below HS103.out (by omega))
    clear HO92
    have HB108 : Hid (Below w.heap.size w w96) := Lib.hid (HB95.out.trans (HS103.out.mono (by omega)))
    clear HB95
    clear HS103
    go_wp2_with fail
    refine (L_toIntS _ _ _ _ (RdIntS.below Ha_aTape.out HB108.out) HB108.out.size hs_aTape).mono ?_
    rintro e w110 ⟨v109, rfl, hx114, hy115⟩
    have z113 : w96.heap.size ≤ w110.heap.size := hy115.size
    have HO111 := Lib.hid hx114
    have HS112 := Lib.hid hy115
    clear hx114 hy115
    have HO116 := Lib.hid (HO106.out.below HS112.out (by omega))
    clear HO106
    have HO117 := Lib.hid (HO107.out.below HS112.out (by omega))
    clear HO107
    have HB118 : Hid (Below w.heap.size w w110) := Lib.hid (HB108.out.trans (HS112.out.mono (by omega)))
    clear HB108
    clear HS112
    go_wp2_with fail
    refine (X_i_ManyAsk _ aIndex aN d_aTape _ (HO111.out.rd.more (by omega)) hs_aTape).mono ?_
    rintro e w119 ⟨h0_w119, rfl, hx120, hy121⟩
    have z122 : w110.heap.size ≤ w119.heap.size := hy121.size
    have HO123 := Lib.hid hx120
    clear hx120
    have HS124 := Lib.hid hy121
    clear hy121
    have HO125 := Lib.hid (HO116.out.below HS124.out (by omega))
    clear HO116
    have HO126 := Lib.hid (HO117.out.below HS124.out (by omega))
    clear HO117
    have HO127 := Lib.hid (HO111.out.below HS124.out (by omega))
    clear HO111
    have HB128 : Hid (Below w.heap.size w w119) := Lib.hid (HB118.out.trans (HS124.out.mono (by omega)))
    clear HB118
    clear HS124
    clear HO127
    go_wp2_with fail
    refine (L_eqIntS _ _ _ _ _ _ HO123.out.rd HO125.out.rd (by omega) (by omega) HO123.out.small).mono ?_
    rintro e w129 ⟨rfl, hx130⟩
    have z131 : w119.heap.size ≤ w129.heap.size := hx130.size
    have HS132 := Lib.hid hx130
    clear hx130
    have HO133 := Lib.hid (HO125.out.below HS132.out (by omega))
    clear HO125
    have HO134 := Lib.hid (HO126.out.below HS132.out (by omega))
    clear HO126
    have HO135 := Lib.hid (HO123.out.below HS132.out (by omega))
    clear HO123
    have HB136 : Hid (Below w.heap.size w w129) := Lib.hid (HB128.out.trans (HS132.out.mono (by omega)))
    clear HB128
    clear HS132
    go_wp2_with fail
    refine (L_heldIntS _ _ (R_ManyAsk_0 aIndex aN d_aTape) 1 _ _ HO134.out.rd (by omega) hs83 (Lib.hid rfl) (by omega) (by omega)).mono ?_
    rintro e w137 ⟨K138, rfl, hk139, h0_140, h1_141, hx142⟩
    have z143 : w129.heap.size ≤ w137.heap.size := hx142.size
    have HS144 := Lib.hid hx142
    clear hx142
    have HE145 : Hid (K138 = K85) := Lib.hid (by rw [hk139.out, hk86.out])
    have hne146 : (K138 != K85) = false := by rw [HE145.out]; simp
    have HO147 := Lib.hid (HO133.out.below HS144.out (by omega))
    clear HO133
    have HO148 := Lib.hid (HO134.out.below HS144.out (by omega))
    clear HO134
    have HO149 := Lib.hid (HO135.out.below HS144.out (by omega))
    clear HO135
    have HB150 : Hid (Below w.heap.size w w137) := Lib.hid (HB136.out.trans (HS144.out.mono (by omega)))
    clear HB136
    clear HS144
    go_wp2
    go_ret
    exact ⟨rfl, HB150.out⟩
  · have hn_aTape : ¬ n_aTape ≤ 1048576 := by have := h_aTape.len; unfold szIntS at hs_aTape; omega
    go_enter Try.func7, Try.ntmps7
    go_wp2
    go_ret
    exact ⟨rfl, by first | exact Below.refl _ _ | exact (Below.refl _ _).alloc (Nat.le_refl _) _ | exact ((Below.refl _ _).alloc (Nat.le_refl _) _).alloc (by simp) _⟩

set_option maxRecDepth 100000 in
theorem lifted (os : Os) (started : os.Started) (H : Type) (enc : TypeId × Value → H) :
    ReturnsInHanded {} Try.checked os 7 .any (Rows.fnExactManyAskSpec.pre6 enc Try.prog Try.f7 Rows.fnExactManyAskRow.domain false) (Rows.fnExactManyAskSpec.post enc Try.prog Try.f7 false true false false) := by
  refine returnsInHanded_of_change (C := Try.checked) own started (by kernel_rfl) Try.func7
    (ChangeSpec.witness6 (enc := enc) (C := Try.checked) false ⟨#[], #[.int .i64 0, .int .i64 0, .slice none 0 0], []⟩ 8 (by kernel_rfl) (by kernel_rfl) (by kernel_rfl) (by kernel_rfl)) ?_
  intro W base args ds gs before hval0 hW hcnd _
  have hval : ∀ (j : Nat) t v, Try.f7.params[j]? = some t → args[j]? = some v → Value.okWide Try.prog W .any base t v := hval0
  have hW' := hW
  obtain ⟨p, q, hA0, hV, rfl, hfz, hnd⟩ := hW
  have hA : DataW.TrodAll enc Try.prog W 0 (fun _ => true) true Try.f7.params.toList args.toList ds p := hA0
  rw [Try.params7] at hA hval
  obtain ⟨v0, vs0, dd0, ds0, p0, q0, hargs, rfl, rfl, h0, r0⟩ := trodAll_cons hA
  obtain ⟨v1, vs1, dd1, ds1, p1, q1, rfl, rfl, rfl, h1, r1⟩ := trodAll_cons r0
  obtain ⟨v2, vs2, dd2, ds2, p2, q2, rfl, rfl, rfl, h2, r2⟩ := trodAll_cons r1
  obtain ⟨rfl, rfl, rfl⟩ := trodAll_nil r2
  obtain rfl : args = #[v0, v1, v2] := by cases args; simp_all
  obtain ⟨rfl, rfl⟩ := trodVars_none hV
  obtain ⟨aIndex, rfl, rfl, rfl, w_aIndex⟩ := open_int Try.underlying3 (hval 0 3 v0 rfl rfl) h0
  obtain ⟨aN, rfl, rfl, rfl, w_aN⟩ := open_int Try.underlying3 (hval 1 3 v1 rfl rfl) h1
  obtain ⟨A_aTape, n_aTape, c_aTape, d_aTape, rfl, hm_aTape, h_aTape⟩ := open_intS Try.underlying22 Try.underlying3 (by kernel_rfl) (hval 2 22 v2 rfl rfl) h2
  refine (walk aIndex aN A_aTape n_aTape c_aTape d_aTape W w_aIndex w_aN hm_aTape h_aTape).mono fun e W' ⟨he, hb⟩ => ?_
  subst he
  exact ⟨_, rfl, post_law rfl rfl Try.underlying4 (by kernel_rfl) (by kernel_rfl) hW' rfl hb⟩

theorem closed : joinedFacts Try.prog 7 Try.f7 Rows.fnExactManyAskSpec Rows.fnExactManyAskRow = true := joined_of (by kernel_rfl)
theorem over : Rows.fnExactManyAskRow.holds Try.pinned (OpenSpec.ofChange Rows.fnExactManyAskSpec) :=
  OpenClaim.holds_of_wide 7 Try.f7 rfl rfl rfl rfl rfl rfl rfl ⟨rfl, rfl, rfl, rfl, rfl⟩ rfl rfl rfl rfl rfl (by kernel_rfl) Try.func7 closed
    (of_decide_eq_true (by kernel_rfl)) (by unfold Func.isWrapper; first | (rw [if_pos (by decide +kernel)]; kernel_rfl) | (rw [if_neg (by decide +kernel)]; exact ⟨rfl, rfl⟩))
    (fun os started H enc _ => lifted os started H enc)
/-- the statement -/
theorem proved : Rows.FnExactManyAskSaid :=
  over
end Go.Proofs.Ytbabkaofhhaneaa.fnExactManyAsk
