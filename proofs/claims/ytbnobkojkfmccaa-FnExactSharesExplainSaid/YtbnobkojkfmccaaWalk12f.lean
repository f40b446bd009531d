/- Chapter 12: ManyExplain of both sides; the program's 'explained', which chapter 4 calls, too. Made by tools/gen12/explain.py. -/
import Derived.Test.YtbnobkojkfmccaaWalk5c
import Derived.Test.YtbnobkojkfmccaaMath15
namespace Go.Proofs.Ytbnobkojkfmccaa
open Go.RowKit
set_option maxHeartbeats 2000000 in
theorem i_explained (A : Option Addr) (n c : Nat) (s : Int) (d : List (Int × Int)) (w : World) (h : Rd w w.heap.size 2 A n (cP d)) (hn : n ≤ 7) (hg : Good ((0, s) :: d) (1 + n)) :
    Calls Try.prog 80 #[.int .i64 s, .slice A n c] w fun e w' => ∃ g, e = .returned g ∧ OwIntT w' w.heap.size w'.heap.size g (expL s d) ∧ Below w.heap.size w w' := by
  have hl := Lib.hid h.plen
  have H := Lib.hid h
  have HG := Lib.hid hg
  clear h hg
  have HQL : Hid (((0, s) :: d).length = 1 + n) := Lib.hid (by rw [List.length_cons, hl.out]; omega)
  have HTO : Hid ((thrI ((0, s) :: d) (1 + n)).1 = thrS ((0, s) :: d) (1 + n) (1 + n)) := Lib.hid (by have := through_one (ps := (0, s) :: d) (by rw [HQL.out]; exact HG.out); rwa [HQL.out] at this)
  go_enter Try.func80, Try.ntmps80
  have HLIT := Lib.hid (lit_point w s)
  have HRD : Hid (Rd (w.alloc (.cells #[.int .i64 0, .int .i64 s] 61)) (w.alloc (.cells #[.int .i64 0, .int .i64 s] 61)).heap.size 2 A n (cP d)) := Lib.hid ((H.out.below ((Below.refl _ _).alloc (Nat.le_refl _) _)).more (by simp))
  have hza : w.heap.size ≤ (w.alloc (.cells #[.int .i64 0, .int .i64 s] 61)).heap.size := by simp
  go_wp2_with (at_builtin
               refine wpList_append_rd rfl (.tmp 8) (.tmp 9) _ rfl w.heap.size 61 _ 2 16 Try.underlying50 info_pt rfl (by decide) (.slice (some ⟨w.heap.size, 0, none⟩) 1 1) 1 [.int .i64 0, .int .i64 s] rfl HLIT.out _ A n c (cP d) rfl HRD.out (cP_one d) (by unfold maxLen; omega) (by omega) hza ?_
               intro v5 w5 hown hgr hat
               obtain ⟨A5, c5, hv5, ho5⟩ := Ow.of_own hown
               subst hv5
               have HO5 : Hid (Ow w5 w.heap.size w5.heap.size 61 2 A5 (1 + n) c5 (cP ((0, s) :: d))) := Lib.hid ho5
               have HB5 : Hid (Below w.heap.size w w5) := Lib.hid (below_grown ((Below.refl _ _).alloc (Nat.le_refl _) _) hgr (fun g e => by simp [Value.ownBlock] at e; omega) hza)
               clear hown hgr hat ho5)
  refine (i_through A5 (1 + n) c5 ((0, s) :: d) w5 HO5.out.rd (by omega) HG.out).mono ?_
  rintro e w6 ⟨g6, rfl, ho6, hb6⟩
  rw [HTO.out] at ho6
  obtain ⟨hsm, At, nt, ct, rfl, hot⟩ := ho6
  have HOT := Lib.hid hot.rd
  have hz5 := HB5.out.size
  have HB6 : Hid (Below w.heap.size w w6) := Lib.hid (HB5.out.trans (hb6.mono (by omega)))
  have hnt : nt ≤ n + 1 := by have := thrS_len ((0, s) :: d) (1 + n) _ (Nat.le_refl _); rw [hot.len] at this; omega
  have HPL : Hid ((thrS ((0, s) :: d) (1 + n) (1 + n)).length ≤ n + 1) := Lib.hid (by rw [hot.len]; exact hnt)
  have hz6 := HB6.out.size
  clear hot hb6 hsm HLIT HRD hza HO5 HB5 HTO
  go_wp2_with fail
  refine (i_padded At nt ct (n + 1) _ w6 HOT.out hnt (by omega)).mono ?_
  rintro e w7 ⟨rfl, hop, hb7, hz7⟩
  have HB7 : Hid (Below w.heap.size w w7) := Lib.hid (HB6.out.trans (hb7.mono hz6))
  have HPO : Hid (OwT w7 w.heap.size w7.heap.size (some ⟨w6.heap.size, 1, none⟩) n (cI (expL s d))) := Lib.hid (by
    refine ⟨by rw [cI_length, expL_length, hl.out], ?_⟩
    obtain ⟨g', cs, hA, h1, h2, hb, ht⟩ := hop.lt (by omega)
    injection hA with hA; injection hA with hA; subst hA
    refine .inr ⟨_, 1, cs, rfl, by omega, by omega, hb, ?_⟩
    have hpl : (padL (thrS ((0, s) :: d) (1 + n) (1 + n)) (n + 1)).length = n + 1 := padL_length _ _ HPL.out
    have e1 : (cs.toList.drop 1).take n = ((cs.toList.take ((n + 1) * 1)).drop 1) := by rw [Nat.mul_one, List.drop_take, Nat.add_sub_cancel]
    rw [e1, ht]
    unfold cI
    rw [← List.map_drop]
    congr 1
    refine ext_getD (by rw [List.length_drop, hpl, expL_length, hl.out]; omega) fun j hj => ?_
    rw [List.length_drop, hpl] at hj
    have e2 := expL_get s d j (by rw [hl.out]; omega)
    rw [hl.out] at e2
    have e3 : (thrS ((0, s) :: d) (1 + n) (1 + n)).getD (j + 1) 0 = (padL (thrS ((0, s) :: d) (1 + n) (1 + n)) (n + 1)).getD (j + 1) 0 := (padL_get _ _ _).symm
    rw [e2, e3, List.getD_eq_getElem?_getD, List.getD_eq_getElem?_getD, List.getElem?_drop, Nat.add_comm 1 j])
  clear hop hb7
  by_cases hn0 : n = 0
  · subst hn0
    go_wp2
    go_ret
    exact ⟨_, rfl, ⟨by rw [expL_length, hl.out]; omega, _, _, _, rfl, HPO.out.1, .inl rfl⟩, HB7.out⟩
  · have hne : ¬ n + 1 = 1 := by omega
    go_wp2
    go_ret
    exact ⟨_, rfl, ⟨by rw [expL_length, hl.out]; omega, _, _, _, rfl, HPO.out⟩, HB7.out⟩

set_option maxHeartbeats 2000000 in
theorem X_i_SharesExplain (v : Value) (s : Int) (d : List (Int × Int)) (w : World) (h : RdPointS w w.heap.size v d) (hs : szPointS d ≤ 1048576) :
    Calls Try.prog 42 #[.int .i64 s, v] w fun e w' => ∃ g, e = .returned (.tuple #[g, .bool (R_SharesExplain_1 s d)]) ∧ OwIntT w' w.heap.size w'.heap.size g (R_SharesExplain_0 s d) ∧ Below w.heap.size w w' := by
  obtain ⟨A, n, c, rfl, hm, r⟩ := h
  have hn : n ≤ 1048576 := by have := r.plen; unfold szPointS at hs; omega
  have hl := Lib.hid r.plen
  have H := Lib.hid r
  clear r hs hm
  have no : expB s d = false → Hid (R_SharesExplain_1 s d = false ∧ R_SharesExplain_0 s d = []) := fun h => Lib.hid ⟨h, by unfold R_SharesExplain_0; rw [h]; rfl⟩
  go_enter Try.func42, Try.ntmps42
  go_wp2_with fail
  refine (i_NumOk _ _).mono ?_
  rintro e w1 ⟨rfl, rfl⟩
  cases hs : numB s
  · have HF := no (by simp [expB, hs])
    clear no
    go_wp2
    go_ret2
    refine ⟨_, ret_vb HF.out.1.symm, ?_, Below.refl _ _⟩
    rw [HF.out.2]; exact OwIntT.nil_ _ _ _
  have HS := Lib.hid hs
  clear hs
  by_cases h6 : n ≤ 6
  · have t6 : decide ((6 : Int) < (n : Int)) = false := decide_eq_false (by omega)
    go_wp2_with fail
    refine (i_sharesOk _ _ _ _ _ _ H.out hn).mono ?_
    rintro e w1 ⟨rfl, hb⟩
    have HB := Lib.hid hb
    have hz := hb.size
    clear hb
    cases hp : shB d 7
    · have HF := no (by simp [expB, hp])
      clear no
      go_wp2
      go_ret2
      refine ⟨_, ret_vb HF.out.1.symm, ?_, HB.out⟩
      rw [HF.out.2]; exact OwIntT.nil_ _ _ _
    · have HX : Hid (expB s d = true) := Lib.hid (by unfold expB; rw [HS.out, hp, hl.out, decide_eq_true h6]; rfl)
      have HF1 : Hid (R_SharesExplain_1 s d = true) := Lib.hid HX.out
      have HF2 : Hid (R_SharesExplain_0 s d = expL s d) := Lib.hid (by unfold R_SharesExplain_0; rw [if_pos HX.out])
      have HG := exp_good HS.out hp (by rw [hl.out]; exact h6)
      rw [hl.out] at HG
      clear no hp
      go_wp2_with fail
      refine (i_explained A n c s d w1 ((H.out.below HB.out).more hz) (by omega) HG).mono ?_
      rintro e w2 ⟨g, rfl, ho, hb⟩
      have HO := Lib.hid (ho.widen hz (Nat.le_refl _))
      have HB2 := Lib.hid (HB.out.trans (hb.mono hz))
      clear ho hb HG
      go_wp2
      go_ret2
      refine ⟨_, ret_vb HF1.out.symm, ?_, HB2.out⟩
      rw [HF2.out]
      exact HO.out
  · have t6 : decide ((6 : Int) < (n : Int)) = true := decide_eq_true (by omega)
    have HF := no (by unfold expB; rw [decide_eq_false (by rw [hl.out]; exact h6)]; simp)
    clear no
    go_wp2
    go_ret2
    refine ⟨_, ret_vb HF.out.1.symm, ?_, Below.refl _ _⟩
    rw [HF.out.2]; exact OwIntT.nil_ _ _ _
end Go.Proofs.Ytbnobkojkfmccaa
