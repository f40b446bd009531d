/- FnExactMatrixRank answers true at every input: at each argument the function and its model answer alike, no argument is written, and the answer owns its memory. No condition. -/
import Derived.Test.YtbnobkojkfmccaaRows
import Derived.Test.YtbnobkojkfmccaaLaw
import Derived.Test.YtbnobkojkfmccaaDoor
import Derived.Test.YtbnobkojkfmccaaLawSS
import Derived.Test.YtbnobkojkfmccaaWalk4f
namespace Go.Proofs.Ytbnobkojkfmccaa.fnExactMatrixRank
open Go.ChangeShapes Go.WideShapes Go.ChangeAt Go.RowKit
theorem own : ownKnob Try.prog.godebug = none := by kernel_rfl
set_option maxRecDepth 100000 in
set_option maxHeartbeats 4000000 in
theorem walk (A_aM : Option Addr) (n_aM c_aM : Nat) (vs_aM : List Value) (d_aM : List (List Int)) (w : World) (hm_aM : n_aM ≤ 9223372036854775807) (h_aM : RdR w w.heap.size A_aM n_aM vs_aM d_aM) :
    Calls Try.prog 6 #[.slice A_aM n_aM c_aM] w fun e w' => e = .returned (.bool true) ∧ Below w.heap.size w w' := by
  have Ha_aM : Hid (RdIntSS w w.heap.size (.slice A_aM n_aM c_aM) d_aM) := Lib.hid (⟨A_aM, n_aM, c_aM, vs_aM, rfl, hm_aM, h_aM⟩)
  clear h_aM
  go_enter Try.func6, Try.ntmps6
  go_wp2_with fail
  rcases Int.lt_or_le 1048576 (szIntSS d_aM : Nat) with hl1 | hl1
  · refine (L_szIntSS_no _ _ _ _ _ Ha_aM.out (by omega) (by omega) hl1).mono ?_
    rintro e w' ⟨rfl, hb⟩
    have hb2 := Lib.hid hb
    clear hb
    go_wp2
    go_ret
    exact ⟨rfl, hb2.out⟩
  refine (L_szIntSS_ok _ _ _ _ _ Ha_aM.out (by omega) (by omega) hl1).mono ?_
  rintro e w2 ⟨L3, rfl, hx6, h0_4, h1_5, hy7⟩
  have hs_aM : szIntSS d_aM ≤ 1048576 := by omega
  have z8 : w.heap.size ≤ w2.heap.size := hy7.size
  have HS9 := Lib.hid hy7
  clear hy7
  have HB10 : Hid (Below w.heap.size w w2) := Lib.hid (HS9.out.mono (by omega))
  clear HS9
  go_wp2_with fail
  refine (L_toIntSS _ _ _ _ (RdIntSS.below Ha_aM.out HB10.out) HB10.out.size hs_aM).mono ?_
  rintro e w12 ⟨v11, rfl, hx16, hy17⟩
  have z15 : w2.heap.size ≤ w12.heap.size := hy17.size
  have HO13 := Lib.hid hx16
  have HS14 := Lib.hid hy17
  clear hx16 hy17
  have HB18 : Hid (Below w.heap.size w w12) := Lib.hid (HB10.out.trans (HS14.out.mono (by omega)))
  clear HB10
  clear HS14
  go_wp2_with fail
  refine (X_s_MatrixRank _ d_aM _ (HO13.out.rd.more (by omega)) hs_aM).mono ?_
  rintro e w19 ⟨rfl, hy20⟩
  have z21 : w12.heap.size ≤ w19.heap.size := hy20.size
  have HS22 := Lib.hid hy20
  clear hy20
  have HO23 := Lib.hid (HO13.out.below HS22.out (by omega))
  clear HO13
  have HB24 : Hid (Below w.heap.size w w19) := Lib.hid (HB18.out.trans (HS22.out.mono (by omega)))
  clear HB18
  clear HS22
  clear HO23
  go_wp2_with fail
  refine (L_toIntSS _ _ _ _ (RdIntSS.below Ha_aM.out HB24.out) HB24.out.size hs_aM).mono ?_
  rintro e w26 ⟨v25, rfl, hx30, hy31⟩
  have z29 : w19.heap.size ≤ w26.heap.size := hy31.size
  have HO27 := Lib.hid hx30
  have HS28 := Lib.hid hy31
  clear hx30 hy31
  have HB32 : Hid (Below w.heap.size w w26) := Lib.hid (HB24.out.trans (HS28.out.mono (by omega)))
  clear HB24
  clear HS28
  go_wp2_with fail
  refine (X_i_MatrixRank _ d_aM _ (HO27.out.rd.more (by omega)) hs_aM).mono ?_
  rintro e w33 ⟨rfl, hy34⟩
  have z35 : w26.heap.size ≤ w33.heap.size := hy34.size
  have HS36 := Lib.hid hy34
  clear hy34
  have HO37 := Lib.hid (HO27.out.below HS36.out (by omega))
  clear HO27
  have HB38 : Hid (Below w.heap.size w w33) := Lib.hid (HB32.out.trans (HS36.out.mono (by omega)))
  clear HB32
  clear HS36
  go_wp2_with fail
  refine (L_toIntSS _ _ _ _ (RdIntSS.below Ha_aM.out HB38.out) HB38.out.size hs_aM).mono ?_
  rintro e w40 ⟨v39, rfl, hx44, hy45⟩
  have z43 : w33.heap.size ≤ w40.heap.size := hy45.size
  have HO41 := Lib.hid hx44
  have HS42 := Lib.hid hy45
  clear hx44 hy45
  have HO46 := Lib.hid (HO37.out.below HS42.out (by omega))
  clear HO37
  have HB47 : Hid (Below w.heap.size w w40) := Lib.hid (HB38.out.trans (HS42.out.mono (by omega)))
  clear HB38
  clear HS42
  go_wp2_with fail
  refine (L_eqIntSS _ _ _ _ _ _ HO46.out.rd HO41.out.rd (by omega) (by omega) HO46.out.small).mono ?_
  rintro e w48 ⟨rfl, hx49⟩
  have z50 : w40.heap.size ≤ w48.heap.size := hx49.size
  have HS51 := Lib.hid hx49
  clear hx49
  have HO52 := Lib.hid (HO46.out.below HS51.out (by omega))
  clear HO46
  have HO53 := Lib.hid (HO41.out.below HS51.out (by omega))
  clear HO41
  have HB54 : Hid (Below w.heap.size w w48) := Lib.hid (HB47.out.trans (HS51.out.mono (by omega)))
  clear HB47
  clear HS51
  clear HO53
  go_wp2
  go_ret
  exact ⟨rfl, HB54.out⟩

set_option maxRecDepth 100000 in
theorem lifted (os : Os) (started : os.Started) (H : Type) (enc : TypeId × Value → H) :
    ReturnsInHanded {} Try.checked os 6 .any (Rows.fnExactMatrixRankSpec.pre6 enc Try.prog Try.f6 Rows.fnExactMatrixRankRow.domain false) (Rows.fnExactMatrixRankSpec.post enc Try.prog Try.f6 false true false false) := by
  refine returnsInHanded_of_change (C := Try.checked) own started (by kernel_rfl) Try.func6
    (ChangeSpec.witness6 (enc := enc) (C := Try.checked) false ⟨#[], #[.slice none 0 0], []⟩ 8 (by kernel_rfl) (by kernel_rfl) (by kernel_rfl) (by kernel_rfl)) ?_
  intro W base args ds gs before hval0 hW hcnd _
  have hval : ∀ (j : Nat) t v, Try.f6.params[j]? = some t → args[j]? = some v → Value.okWide Try.prog W .any base t v := hval0
  have hW' := hW
  obtain ⟨p, q, hA0, hV, rfl, hfz, hnd⟩ := hW
  have hA : DataW.TrodAll enc Try.prog W 0 (fun _ => true) true Try.f6.params.toList args.toList ds p := hA0
  rw [Try.params6] at hA hval
  obtain ⟨v0, vs0, dd0, ds0, p0, q0, hargs, rfl, rfl, h0, r0⟩ := trodAll_cons hA
  obtain ⟨rfl, rfl, rfl⟩ := trodAll_nil r0
  obtain rfl : args = #[v0] := by cases args; simp_all
  obtain ⟨rfl, rfl⟩ := trodVars_none hV
  obtain ⟨A_aM, n_aM, c_aM, vs_aM, d_aM, rfl, hm_aM, h_aM⟩ := open_intSS Try.underlying22 Try.underlying27 Try.underlying3 (by kernel_rfl) (by kernel_rfl) (hval 0 22 v0 rfl rfl) h0
  refine (walk A_aM n_aM c_aM vs_aM d_aM W hm_aM h_aM).mono fun e W' ⟨he, hb⟩ => ?_
  subst he
  exact ⟨_, rfl, post_law rfl rfl Try.underlying4 (by kernel_rfl) (by kernel_rfl) hW' rfl hb⟩

theorem closed : joinedFacts Try.prog 6 Try.f6 Rows.fnExactMatrixRankSpec Rows.fnExactMatrixRankRow = true := joined_of (by kernel_rfl)
theorem over : Rows.fnExactMatrixRankRow.holds Try.pinned (OpenSpec.ofChange Rows.fnExactMatrixRankSpec) :=
  OpenClaim.holds_of_wide 6 Try.f6 rfl rfl rfl rfl rfl rfl rfl ⟨rfl, rfl, rfl, rfl, rfl⟩ rfl rfl rfl rfl rfl (by kernel_rfl) Try.func6 closed
    (of_decide_eq_true (by kernel_rfl)) (by unfold Func.isWrapper; first | (rw [if_pos (by decide +kernel)]; kernel_rfl) | (rw [if_neg (by decide +kernel)]; exact ⟨rfl, rfl⟩))
    (fun os started H enc _ => lifted os started H enc)
/-- the statement -/
theorem proved : Rows.FnExactMatrixRankSaid :=
  over
end Go.Proofs.Ytbnobkojkfmccaa.fnExactMatrixRank
