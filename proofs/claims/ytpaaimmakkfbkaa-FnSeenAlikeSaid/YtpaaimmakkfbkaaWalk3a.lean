/- Chapter 3 in the model: matrices, and a matrix times a list. -/
import Derived.Test.YtpaaimmakkfbkaaSS2
import Derived.Test.YtpaaimmakkfbkaaWalk2m
namespace Go.Proofs.Ytpaaimmakkfbkaa
open Go.RowKit
set_option maxRecDepth 100000

def inB (n lo hi : Int) : Bool := decide (lo ≤ n) && decide (n ≤ hi)
theorem inB_t {n lo hi : Int} (h : lo ≤ n ∧ n ≤ hi) : inB n lo hi = true := by simp [inB, h]
theorem inB_f {n lo hi : Int} (h : ¬ (lo ≤ n ∧ n ≤ hi)) : inB n lo hi = false := by
  unfold inB
  by_cases h1 : lo ≤ n
  · have h2 : ¬ n ≤ hi := fun e => h ⟨h1, e⟩
    simp [h2]
  · simp [h1]
theorem inB_iff {n lo hi : Int} : inB n lo hi = true ↔ lo ≤ n ∧ n ≤ hi := by simp [inB]
set_option maxHeartbeats 400000 in
theorem s_l6In (n lo hi : Int) (w : World) :
    Calls Try.prog 19 #[.int .i64 n, .int .i64 lo, .int .i64 hi] w fun e w' => e = .returned (.bool (inB n lo hi)) ∧ w = w' := by
  by_cases h1 : lo ≤ n
  all_goals by_cases h2 : n ≤ hi
  all_goals
    go_enter Try.func19, Try.ntmps19
    go_wp2
    go_ret
    exact ⟨by simp [inB, h1, h2], rfl⟩

/-- the first k rows are as long as the first and hold numbers -/
def rowsK (d : List (List Int)) : Nat → Bool
  | 0 => true
  | k + 1 => rowsK d k && (decide ((d.getD k []).length = (d.getD 0 []).length) && numsB (d.getD k []))
def matB (d : List (List Int)) : Bool := inB d.length 1 8 && (inB (d.getD 0 []).length 1 8 && rowsK d d.length)
theorem rowsK_mono {d : List (List Int)} {k n : Nat} (h : rowsK d n = true) (hk : k ≤ n) : rowsK d k = true := by
  induction n with
  | zero => rw [show k = 0 by omega]; rfl
  | succ n ih =>
    by_cases hc : k = n + 1
    · rw [hc]; exact h
    · exact ih (by simp only [rowsK, Bool.and_eq_true] at h; exact h.1) (by omega)
theorem rowsK_bad {d : List (List Int)} {k n : Nat} (h : rowsK d (k + 1) = false) (hk : k < n) : rowsK d n = false := by
  apply Bool.eq_false_iff.2
  intro ht
  rw [rowsK_mono ht (show k + 1 ≤ n by omega)] at h; cases h
theorem rowsK_row {d : List (List Int)} {k n : Nat} (h : rowsK d n = true) (hk : k < n) : (d.getD k []).length = (d.getD 0 []).length ∧ numsB (d.getD k []) = true := by
  have := rowsK_mono h (show k + 1 ≤ n by omega)
  simp only [rowsK, Bool.and_eq_true, decide_eq_true_eq] at this
  exact this.2
/-- what a matrix is -/
structure Mat (d : List (List Int)) (m : Nat) : Prop where
  rows : 1 ≤ d.length ∧ d.length ≤ 8
  cols : 1 ≤ m ∧ m ≤ 8
  len : ∀ i, i < d.length → (d.getD i []).length = m
  nums : ∀ i, i < d.length → Nums (d.getD i [])
theorem Mat.of {d : List (List Int)} (h : matB d = true) : Mat d (d.getD 0 []).length := by
  simp only [matB, Bool.and_eq_true, inB_iff] at h
  exact ⟨by omega, by omega, fun i hi => (rowsK_row h.2.2 hi).1, fun i hi => nums_of_B (rowsK_row h.2.2 hi).2⟩

end Go.Proofs.Ytpaaimmakkfbkaa
