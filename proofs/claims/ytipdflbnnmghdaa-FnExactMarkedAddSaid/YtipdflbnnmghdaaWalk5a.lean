/- Chapter 4: shares that are good; SharesJoin, in the model and in the program. -/
import Derived.Test.YtipdflbnnmghdaaFace2d
namespace Go.Proofs.Ytipdflbnnmghdaa
open Go.RowKit
set_option maxRecDepth 100000

/-- the first k have X from 1 to top -/
def xsK (ps : List (Int × Int)) (top : Int) : Nat → Bool
  | 0 => true
  | k + 1 => xsK ps top k && (decide (1 ≤ px ps k) && decide (px ps k ≤ top))
theorem xsK_mono {ps : List (Int × Int)} {top : Int} {k n : Nat} (h : xsK ps top n = true) (hk : k ≤ n) : xsK ps top k = true := by
  induction n with
  | zero => rw [show k = 0 by omega]; rfl
  | succ n ih =>
    by_cases hc : k = n + 1
    · rw [hc]; exact h
    · exact ih (by simp only [xsK, Bool.and_eq_true] at h; exact h.1) (by omega)
theorem xsK_bad {ps : List (Int × Int)} {top : Int} {k n : Nat} (h : xsK ps top (k + 1) = false) (hk : k < n) : xsK ps top n = false := by
  apply Bool.eq_false_iff.2
  intro ht
  rw [xsK_mono ht (show k + 1 ≤ n by omega)] at h; cases h
theorem xsK_at {ps : List (Int × Int)} {top : Int} {k n : Nat} (h : xsK ps top n = true) (hk : k < n) : 1 ≤ px ps k ∧ px ps k ≤ top := by
  have := xsK_mono h (show k + 1 ≤ n by omega)
  simp only [xsK, Bool.and_eq_true, decide_eq_true_eq] at this
  exact this.2
theorem ret_tib {a b : Int} {c d : Bool} (h1 : a = b) (h2 : c = d) : Ending.returned (.tuple #[.int .i64 a, .bool c]) = .returned (.tuple #[.int .i64 b, .bool d]) := by rw [h1, h2]
def shB (ps : List (Int × Int)) (top : Int) : Bool := ptsB ps && xsK ps top ps.length
theorem shB_good {ps : List (Int × Int)} {n : Nat} (hl : ps.length = n) (h : ptsB ps = true) : Good ps n ∧ n ≤ 20 := by
  simp only [ptsB, Bool.and_eq_true, decide_eq_true_eq] at h
  exact ⟨by rw [← hl]; exact Good.of h.2, by omega⟩

def joinB (d : List (Int × Int)) : Bool := decide (0 < d.length) && shB d 112
def joinI (d : List (Int × Int)) : Int := if joinB d = true then atI (thrS d d.length d.length) 0 else 0
theorem joinI_no {d : List (Int × Int)} (h : joinB d = false) : joinI d = 0 := by simp [joinI, h]

end Go.Proofs.Ytipdflbnnmghdaa
