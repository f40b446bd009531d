/- Chapter 2: PolyDivide as the laws meet it. Made by gen2face3.py. -/
import Derived.Test.YtpdkkfbnfjfmhaaWalk2j
namespace Go.Proofs.Ytpdkkfbnfjfmhaa
open Go.RowKit
set_option maxRecDepth 100000

def R_PolyDivide_2 (a b : List Int) : Bool := polyB a && polyB b && decide (0 < b.length)
def R_PolyDivide_0 (a b : List Int) : List Int := if R_PolyDivide_2 a b = true then divQ a b else []
def R_PolyDivide_1 (a b : List Int) : List Int := if R_PolyDivide_2 a b = true then divR a b else []
theorem ret_vvb {g k : Value} {a b : Bool} (h : a = b) : Ending.returned (.tuple #[g, k, .bool a]) = .returned (.tuple #[g, k, .bool b]) := by rw [h]

set_option maxHeartbeats 1000000 in
theorem X_s_PolyDivide (v v' : Value) (a b : List Int) (w : World) (h : RdIntS w w.heap.size v a) (h' : RdIntS w w.heap.size v' b) (hs : szIntS a ≤ 1048576) (hs' : szIntS b ≤ 1048576) :
    Calls Try.prog 21 #[v, v'] w fun e w' => ∃ g1 g2 mid, e = .returned (.tuple #[g1, g2, .bool (R_PolyDivide_2 a b)]) ∧ w.heap.size ≤ mid ∧ mid ≤ w'.heap.size ∧ OwIntS w' w.heap.size mid g1 (R_PolyDivide_0 a b) ∧ OwIntS w' mid w'.heap.size g2 (R_PolyDivide_1 a b) ∧ Below w.heap.size w w' := by
  obtain ⟨A, n, c, rfl, hm, r⟩ := h
  obtain ⟨A', n', c', rfl, hm', r'⟩ := h'
  have hn : n ≤ 1048576 := by have := r.len; unfold szIntS at hs; omega
  have hn' : n' ≤ 1048576 := by have := r'.len; unfold szIntS at hs'; omega
  have hl := Lib.hid r.len
  have hl' := Lib.hid r'.len
  have H := Lib.hid r
  have H' := Lib.hid r'
  clear r r' hs hs' hm hm'
  cases ha : polyB a
  · have HF : Hid (R_PolyDivide_2 a b = false) := Lib.hid (by simp [R_PolyDivide_2, ha])
    go_enter Try.func21, Try.ntmps21
    go_wp2_with fail
    refine (s_PolyOk _ _ _ _ _ H.out (by omega)).mono ?_
    rintro e w' ⟨rfl, rfl⟩
    go_wp2
    go_ret3
    refine ⟨_, _, w.heap.size, ret_vvb HF.out.symm, Nat.le_refl _, Nat.le_refl _, ?_, ?_, Below.refl _ _⟩
    · rw [R_PolyDivide_0, if_neg (by rw [HF.out]; simp)]; exact OwIntS.nil_ _ _ _
    · rw [R_PolyDivide_1, if_neg (by rw [HF.out]; simp)]; exact OwIntS.nil_ _ _ _
  · have HA := Lib.hid ha
    cases hb : polyB b
    · have HF : Hid (R_PolyDivide_2 a b = false) := Lib.hid (by simp [R_PolyDivide_2, hb])
      go_enter Try.func21, Try.ntmps21
      go_wp2_with fail
      refine (s_PolyOk _ _ _ _ _ H.out (by omega)).mono ?_
      rintro e w' ⟨rfl, rfl⟩
      go_wp2_with fail
      refine (s_PolyOk _ _ _ _ _ H'.out (by omega)).mono ?_
      rintro e w' ⟨rfl, rfl⟩
      go_wp2
      go_ret3
      refine ⟨_, _, w.heap.size, ret_vvb HF.out.symm, Nat.le_refl _, Nat.le_refl _, ?_, ?_, Below.refl _ _⟩
      · rw [R_PolyDivide_0, if_neg (by rw [HF.out]; simp)]; exact OwIntS.nil_ _ _ _
      · rw [R_PolyDivide_1, if_neg (by rw [HF.out]; simp)]; exact OwIntS.nil_ _ _ _
    · have HB := Lib.hid hb
      by_cases h0 : n' = 0
      · have HF : Hid (R_PolyDivide_2 a b = false) := Lib.hid (by simp [R_PolyDivide_2]; have := hl'.out; intros; exact List.eq_nil_of_length_eq_zero (by omega))
        subst h0
        go_enter Try.func21, Try.ntmps21
        go_wp2_with fail
        refine (s_PolyOk _ _ _ _ _ H.out (by omega)).mono ?_
        rintro e w' ⟨rfl, rfl⟩
        go_wp2_with fail
        refine (s_PolyOk _ _ _ _ _ H'.out (by omega)).mono ?_
        rintro e w' ⟨rfl, rfl⟩
        go_wp2
        go_ret3
        refine ⟨_, _, w.heap.size, ret_vvb HF.out.symm, Nat.le_refl _, Nat.le_refl _, ?_, ?_, Below.refl _ _⟩
        · rw [R_PolyDivide_0, if_neg (by rw [HF.out]; simp)]; exact OwIntS.nil_ _ _ _
        · rw [R_PolyDivide_1, if_neg (by rw [HF.out]; simp)]; exact OwIntS.nil_ _ _ _
      · have HF : Hid (R_PolyDivide_2 a b = true) := Lib.hid (by simp only [R_PolyDivide_2, ha, hb, Bool.true_and, decide_eq_true_eq]; have := hl'.out; omega)
        have hz1 : ((n' : Int) == 0) = false := by rw [beq_eq_false_iff_ne]; omega
        have HL : Hid (b.getD (n' - 1) 0 ≠ 0) := Lib.hid (by have h1 := polyB_last hb (by have := hl'.out; omega); rw [hl'.out] at h1; exact h1)
        have HN := Lib.hid (polyB_nums ha)
        have HN' := Lib.hid (polyB_nums hb)
        have b1 : n ≤ 20 := by have := polyB_len ha; have := hl.out; omega
        have b2 : n' ≤ 20 := by have := polyB_len hb; have := hl'.out; omega
        go_enter Try.func21, Try.ntmps21
        go_wp2_with fail
        refine (s_PolyOk _ _ _ _ _ H.out (by omega)).mono ?_
        rintro e w' ⟨rfl, rfl⟩
        go_wp2_with fail
        refine (s_PolyOk _ _ _ _ _ H'.out (by omega)).mono ?_
        rintro e w' ⟨rfl, rfl⟩
        go_wp2_with fail
        refine (s_l2Divide _ _ _ _ _ _ _ _ _ H.out H'.out HN.out HN'.out (by omega) (by omega) (by omega) HL.out).mono ?_
        rintro e w1 ⟨g1, g2, mid, rfl, m1, m2, ho, ho2, hbl⟩
        have M1 := Lib.hid m1
        have M2 := Lib.hid m2
        have HO := Lib.hid ho
        have HO2 := Lib.hid ho2
        have HBL := Lib.hid hbl
        clear ho ho2 hbl m1 m2
        go_wp2
        go_ret3
        refine ⟨_, _, mid, ret_vvb HF.out.symm, M1.out, M2.out, ?_, ?_, HBL.out⟩
        · rw [R_PolyDivide_0, if_pos HF.out]; exact HO.out
        · rw [R_PolyDivide_1, if_pos HF.out]; exact HO2.out

set_option maxHeartbeats 1000000 in
theorem X_i_PolyDivide (v v' : Value) (a b : List Int) (w : World) (h : RdIntS w w.heap.size v a) (h' : RdIntS w w.heap.size v' b) (hs : szIntS a ≤ 1048576) (hs' : szIntS b ≤ 1048576) :
    Calls Try.prog 22 #[v, v'] w fun e w' => ∃ g1 g2 mid, e = .returned (.tuple #[g1, g2, .bool (R_PolyDivide_2 a b)]) ∧ w.heap.size ≤ mid ∧ mid ≤ w'.heap.size ∧ OwIntS w' w.heap.size mid g1 (R_PolyDivide_0 a b) ∧ OwIntS w' mid w'.heap.size g2 (R_PolyDivide_1 a b) ∧ Below w.heap.size w w' := by
  obtain ⟨A, n, c, rfl, hm, r⟩ := h
  obtain ⟨A', n', c', rfl, hm', r'⟩ := h'
  have hn : n ≤ 1048576 := by have := r.len; unfold szIntS at hs; omega
  have hn' : n' ≤ 1048576 := by have := r'.len; unfold szIntS at hs'; omega
  have hl := Lib.hid r.len
  have hl' := Lib.hid r'.len
  have H := Lib.hid r
  have H' := Lib.hid r'
  clear r r' hs hs' hm hm'
  cases ha : polyB a
  · have HF : Hid (R_PolyDivide_2 a b = false) := Lib.hid (by simp [R_PolyDivide_2, ha])
    go_enter Try.func22, Try.ntmps22
    go_wp2_with fail
    refine (i_PolyOk _ _ _ _ _ H.out (by omega)).mono ?_
    rintro e w' ⟨rfl, rfl⟩
    go_wp2
    go_ret3
    refine ⟨_, _, w.heap.size, ret_vvb HF.out.symm, Nat.le_refl _, Nat.le_refl _, ?_, ?_, Below.refl _ _⟩
    · rw [R_PolyDivide_0, if_neg (by rw [HF.out]; simp)]; exact OwIntS.nil_ _ _ _
    · rw [R_PolyDivide_1, if_neg (by rw [HF.out]; simp)]; exact OwIntS.nil_ _ _ _
  · have HA := Lib.hid ha
    cases hb : polyB b
    · have HF : Hid (R_PolyDivide_2 a b = false) := Lib.hid (by simp [R_PolyDivide_2, hb])
      go_enter Try.func22, Try.ntmps22
      go_wp2_with fail
      refine (i_PolyOk _ _ _ _ _ H.out (by omega)).mono ?_
      rintro e w' ⟨rfl, rfl⟩
      go_wp2_with fail
      refine (i_PolyOk _ _ _ _ _ H'.out (by omega)).mono ?_
      rintro e w' ⟨rfl, rfl⟩
      go_wp2
      go_ret3
      refine ⟨_, _, w.heap.size, ret_vvb HF.out.symm, Nat.le_refl _, Nat.le_refl _, ?_, ?_, Below.refl _ _⟩
      · rw [R_PolyDivide_0, if_neg (by rw [HF.out]; simp)]; exact OwIntS.nil_ _ _ _
      · rw [R_PolyDivide_1, if_neg (by rw [HF.out]; simp)]; exact OwIntS.nil_ _ _ _
    · have HB := Lib.hid hb
      by_cases h0 : n' = 0
      · have HF : Hid (R_PolyDivide_2 a b = false) := Lib.hid (by simp [R_PolyDivide_2]; have := hl'.out; intros; exact List.eq_nil_of_length_eq_zero (by omega))
        subst h0
        go_enter Try.func22, Try.ntmps22
        go_wp2_with fail
        refine (i_PolyOk _ _ _ _ _ H.out (by omega)).mono ?_
        rintro e w' ⟨rfl, rfl⟩
        go_wp2_with fail
        refine (i_PolyOk _ _ _ _ _ H'.out (by omega)).mono ?_
        rintro e w' ⟨rfl, rfl⟩
        go_wp2
        go_ret3
        refine ⟨_, _, w.heap.size, ret_vvb HF.out.symm, Nat.le_refl _, Nat.le_refl _, ?_, ?_, Below.refl _ _⟩
        · rw [R_PolyDivide_0, if_neg (by rw [HF.out]; simp)]; exact OwIntS.nil_ _ _ _
        · rw [R_PolyDivide_1, if_neg (by rw [HF.out]; simp)]; exact OwIntS.nil_ _ _ _
      · have HF : Hid (R_PolyDivide_2 a b = true) := Lib.hid (by simp only [R_PolyDivide_2, ha, hb, Bool.true_and, decide_eq_true_eq]; have := hl'.out; omega)
        have hz1 : ((n' : Int) == 0) = false := by rw [beq_eq_false_iff_ne]; omega
        have HL : Hid (b.getD (n' - 1) 0 ≠ 0) := Lib.hid (by have h1 := polyB_last hb (by have := hl'.out; omega); rw [hl'.out] at h1; exact h1)
        have HN := Lib.hid (polyB_nums ha)
        have HN' := Lib.hid (polyB_nums hb)
        have b1 : n ≤ 20 := by have := polyB_len ha; have := hl.out; omega
        have b2 : n' ≤ 20 := by have := polyB_len hb; have := hl'.out; omega
        go_enter Try.func22, Try.ntmps22
        go_wp2_with fail
        refine (i_PolyOk _ _ _ _ _ H.out (by omega)).mono ?_
        rintro e w' ⟨rfl, rfl⟩
        go_wp2_with fail
        refine (i_PolyOk _ _ _ _ _ H'.out (by omega)).mono ?_
        rintro e w' ⟨rfl, rfl⟩
        go_wp2_with fail
        refine (i_divide _ _ _ _ _ _ _ _ _ H.out H'.out HN.out HN'.out (by omega) (by omega) (by omega)).mono ?_
        rintro e w1 ⟨g1, g2, mid, rfl, m1, m2, ho, ho2, hbl⟩
        have M1 := Lib.hid m1
        have M2 := Lib.hid m2
        have HO := Lib.hid ho
        have HO2 := Lib.hid ho2
        have HBL := Lib.hid hbl
        clear ho ho2 hbl m1 m2
        go_wp2
        go_ret3
        refine ⟨_, _, mid, ret_vvb HF.out.symm, M1.out, M2.out, ?_, ?_, HBL.out⟩
        · rw [R_PolyDivide_0, if_pos HF.out]; exact HO.out
        · rw [R_PolyDivide_1, if_pos HF.out]; exact HO2.out
end Go.Proofs.Ytpdkkfbnfjfmhaa
