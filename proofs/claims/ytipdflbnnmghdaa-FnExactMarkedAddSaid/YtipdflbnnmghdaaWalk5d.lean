/- Chapter 4: lists of points as results: marked, held; the numbers in them; SharesScale in the model. -/
import Derived.Test.YtipdflbnnmghdaaWalk5c
namespace Go.Proofs.Ytipdflbnnmghdaa
open Go.RowKit
set_option maxRecDepth 100000

theorem iotaP_get (K : Int) (n k : Nat) (h : k < n) : (iotaP K n).getD k (0, 0) = (K + 2 * (k : Int), K + 2 * (k : Int) + 1) := by
  simp [iotaP, h]

/-! the numbers in a list of points -/
def numK (ps : List (Int × Int)) : Nat → Bool
  | 0 => true
  | k + 1 => numK ps k && (numB (px ps k) && numB (py ps k))
theorem numK_mono {ps : List (Int × Int)} {k n : Nat} (h : numK ps n = true) (hk : k ≤ n) : numK ps k = true := by
  induction n with
  | zero => rw [show k = 0 by omega]; rfl
  | succ n ih =>
    by_cases hc : k = n + 1
    · rw [hc]; exact h
    · exact ih (by simp only [numK, Bool.and_eq_true] at h; exact h.1) (by omega)
theorem numK_bad {ps : List (Int × Int)} {k n : Nat} (h : numK ps (k + 1) = false) (hk : k < n) : numK ps n = false := by
  apply Bool.eq_false_iff.2
  intro ht
  rw [numK_mono ht (show k + 1 ≤ n by omega)] at h; cases h
theorem numK_at {ps : List (Int × Int)} {k n : Nat} (h : numK ps n = true) (hk : k < n) : (0 ≤ px ps k ∧ px ps k ≤ 112) ∧ 0 ≤ py ps k ∧ py ps k ≤ 112 := by
  have := numK_mono h (show k + 1 ≤ n by omega)
  simp only [numK, Bool.and_eq_true] at this
  exact ⟨(numB_iff _).1 this.2.1, (numB_iff _).1 this.2.2⟩

end Go.Proofs.Ytipdflbnnmghdaa
