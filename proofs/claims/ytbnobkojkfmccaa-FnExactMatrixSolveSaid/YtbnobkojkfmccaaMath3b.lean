/- What elimination leaves; a solution read off. No word of a program. -/
import Derived.Test.YtbnobkojkfmccaaMath3
namespace Go.Proofs.Ytbnobkojkfmccaa
open Go.RowKit

theorem getD_app {α : Type} (l : List α) (x z : α) (j : Nat) : (l ++ [x]).getD j z = if j < l.length then l.getD j z else if j = l.length then x else z := by
  simp only [List.getD_eq_getElem?_getD, List.getElem?_append]
  by_cases h : j < l.length
  · rw [if_pos h, if_pos h]
  · rw [if_neg h, if_neg h]
    by_cases h2 : j = l.length
    · rw [if_pos h2, h2, Nat.sub_self]; rfl
    · rw [if_neg h2, List.getElem?_eq_none (by simp; omega)]; rfl
theorem redStep_inv {n L c : Nat} {S : List (List Int) × List Int} (h1 : Shp S.1 n L) (h2 : S.2.length ≤ n) (h3 : ∀ i, i < S.2.length → 0 ≤ S.2.getD i 0 ∧ S.2.getD i 0 < (c : Int)) :
    Shp (redStep n L S c).1 n L ∧ (redStep n L S c).2.length ≤ n ∧ ∀ i, i < (redStep n L S c).2.length → 0 ≤ (redStep n L S c).2.getD i 0 ∧ (redStep n L S c).2.getD i 0 < ((c + 1 : Nat) : Int) := by
  unfold redStep
  have hp := pivAt_le S.1 c n (n - S.2.length) S.2.length (by omega)
  split
  · exact ⟨h1, h2, fun i hi => by have := h3 i hi; omega⟩
  · have hP : pivAt S.1 c n (n - S.2.length) S.2.length < n := by omega
    have hk : S.2.length < n := by omega
    have hs := h1.swap hP hk
    have hr := hs.2 _ hk
    refine ⟨Shp.elim (hs.set (by rw [updJ_length]; exact hr.1) (nums_updJ hr.2 (fun _ _ => scaleF_bd _ _ _) _ (by rw [hr.1]; exact Nat.le_refl _))) (Nat.le_refl _), by simp; omega, fun i hi => ?_⟩
    simp only [List.length_append, List.length_cons, List.length_nil] at hi
    have e := getD_app S.2 (c : Int) 0 i
    rw [e]
    by_cases h4 : i < S.2.length
    · rw [if_pos h4]; have := h3 i h4; omega
    · rw [if_neg h4, if_pos (by omega)]; omega
theorem redC_inv {D : List (List Int)} {n L : Nat} (h : Shp D n L) (c : Nat) :
    Shp (redC D n L c).1 n L ∧ (redC D n L c).2.length ≤ n ∧ ∀ i, i < (redC D n L c).2.length → 0 ≤ (redC D n L c).2.getD i 0 ∧ (redC D n L c).2.getD i 0 < (c : Int) := by
  induction c with
  | zero => exact ⟨h, Nat.zero_le _, fun i hi => absurd hi (by simp [redC])⟩
  | succ c ih => exact redStep_inv ih.1 ih.2.1 ih.2.2
/-- the solution after i rows -/
def solK (D : List (List Int)) (T : List Int) (m : Nat) : Nat → List Int
  | 0 => List.replicate m 0
  | i + 1 => if i < T.length then (solK D T m i).set (T.getD i 0).toNat ((D.getD i []).getD m 0) else solK D T m i
theorem solK_length (D : List (List Int)) (T : List Int) (m i : Nat) : (solK D T m i).length = m := by
  induction i with
  | zero => simp [solK]
  | succ i ih => rw [solK]; split <;> simp [ih]
/-- the rows that are left are zero on the right side -/
def solB (D : List (List Int)) (k m : Nat) : Nat → Bool
  | 0 => true
  | i + 1 => solB D k m i && (decide (i < k) || ((D.getD i []).getD m 0 == 0))
theorem solB_mono {D : List (List Int)} {k m i n : Nat} (h : solB D k m n = true) (hi : i ≤ n) : solB D k m i = true := by
  induction n with
  | zero => rw [show i = 0 by omega]; rfl
  | succ n ih =>
    by_cases hc : i = n + 1
    · rw [hc]; exact h
    · exact ih (by simp only [solB, Bool.and_eq_true] at h; exact h.1) (by omega)
theorem solB_bad {D : List (List Int)} {k m i n : Nat} (h : solB D k m (i + 1) = false) (hi : i < n) : solB D k m n = false := by
  apply Bool.eq_false_iff.2
  intro ht
  rw [solB_mono ht (show i + 1 ≤ n by omega)] at h; cases h
end Go.Proofs.Ytbnobkojkfmccaa
