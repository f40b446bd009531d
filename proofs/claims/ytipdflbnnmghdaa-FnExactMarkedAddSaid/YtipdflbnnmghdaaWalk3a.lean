/- Chapter 3 in the model: matrices, and a matrix times a list. -/
import Derived.Test.YtipdflbnnmghdaaSS2
import Derived.Test.YtipdflbnnmghdaaWalk2m
import Derived.Test.YtipdflbnnmghdaaIn
namespace Go.Proofs.Ytipdflbnnmghdaa
open Go.RowKit
set_option maxRecDepth 100000

/-- the first k rows are as long as the first and hold numbers -/
def rowsK (d : List (List Int)) : Nat → Bool
  | 0 => true
  | k + 1 => rowsK d k && (decide ((d.getD k []).length = (d.getD 0 []).length) && numsB (d.getD k []))
def matB (d : List (List Int)) : Bool := inB d.length 1 8 && (inB (d.getD 0 []).length 1 8 && rowsK d d.length)
theorem rowsK_mono {d : List (List Int)} {k n : Nat} (h : rowsK d n = true) (hk : k ≤ n) : rowsK d k = true := by
  induction n with
  | zero => rw [show k = 0 by omega]; rfl
  | succ n ih =>
    by_cases hc : k = n + 1
    · rw [hc]; exact h
    · exact ih (by simp only [rowsK, Bool.and_eq_true] at h; exact h.1) (by omega)
theorem rowsK_bad {d : List (List Int)} {k n : Nat} (h : rowsK d (k + 1) = false) (hk : k < n) : rowsK d n = false := by
  apply Bool.eq_false_iff.2
  intro ht
  rw [rowsK_mono ht (show k + 1 ≤ n by omega)] at h; cases h
theorem rowsK_row {d : List (List Int)} {k n : Nat} (h : rowsK d n = true) (hk : k < n) : (d.getD k []).length = (d.getD 0 []).length ∧ numsB (d.getD k []) = true := by
  have := rowsK_mono h (show k + 1 ≤ n by omega)
  simp only [rowsK, Bool.and_eq_true, decide_eq_true_eq] at this
  exact this.2
/-- what a matrix is -/
structure Mat (d : List (List Int)) (m : Nat) : Prop where
  rows : 1 ≤ d.length ∧ d.length ≤ 8
  cols : 1 ≤ m ∧ m ≤ 8
  len : ∀ i, i < d.length → (d.getD i []).length = m
  nums : ∀ i, i < d.length → Nums (d.getD i [])
theorem Mat.of {d : List (List Int)} (h : matB d = true) : Mat d (d.getD 0 []).length := by
  simp only [matB, Bool.and_eq_true, inB_iff] at h
  exact ⟨by omega, by omega, fun i hi => (rowsK_row h.2.2 hi).1, fun i hi => nums_of_B (rowsK_row h.2.2 hi).2⟩

end Go.Proofs.Ytipdflbnnmghdaa
