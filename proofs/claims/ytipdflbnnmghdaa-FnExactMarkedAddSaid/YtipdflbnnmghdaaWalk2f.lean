/- Chapter 2: sums and products in the program. -/
import Derived.Test.YtipdflbnnmghdaaWalk2e
namespace Go.Proofs.Ytipdflbnnmghdaa
open Go.RowKit
set_option maxRecDepth 100000

def plusL (zs ys : List Int) (x : Int) : List Int := trimL (addAtK (padL zs (max zs.length ys.length)) 0 ys x ys.length)

theorem addAtK_get (zs : List Int) (idx : Nat) (ys : List Int) (x : Int) (k j : Nat) (h : idx + k ≤ zs.length) :
    (addAtK zs idx ys x k).getD j 0 = if idx ≤ j ∧ j < idx + k then (zs.getD j 0 + ys.getD (j - idx) 0 * x) % 113 else zs.getD j 0 := by
  induction k with
  | zero => rw [addAtK, if_neg (by omega)]
  | succ k ih =>
    rw [addAtK, getD_set, addAtK_length]
    by_cases h1 : idx + k = j
    · subst h1
      rw [if_pos ⟨rfl, by omega⟩, if_pos (by omega), ih (by omega), if_neg (by omega), Nat.add_sub_cancel_left]
    · rw [if_neg (by omega), ih (by omega)]
      by_cases h2 : idx ≤ j ∧ j < idx + k
      · rw [if_pos h2, if_pos (by omega)]
      · rw [if_neg h2, if_neg (by omega)]

/-- k rounds of a product, in a row of m places -/
def mulK (m : Nat) (zs ys : List Int) : Nat → List Int
  | 0 => List.replicate m 0
  | k + 1 => addAtK (mulK m zs ys k) k ys (zs.getD k 0) ys.length
theorem mulK_length (m : Nat) (zs ys : List Int) (k : Nat) : (mulK m zs ys k).length = m := by
  induction k with
  | zero => simp [mulK]
  | succ k ih => rw [mulK, addAtK_length, ih]
theorem nums_zeros (m : Nat) : Nums (List.replicate m 0) := by
  intro j
  by_cases h : j < m
  · simp [h]
  · simp [List.getElem?_eq_none (show (List.replicate m (0 : Int)).length ≤ j by simp; omega)]
theorem nums_mulK (m : Nat) (zs ys : List Int) (k : Nat) : Nums (mulK m zs ys k) := by
  induction k with
  | zero => exact nums_zeros m
  | succ k ih => exact nums_addAtK ih _ _ _ _
/-- one place more makes no difference -/
theorem mulK_get (m m' : Nat) (zs ys : List Int) (k j : Nat) (h : k ≤ zs.length) (hm : zs.length + ys.length ≤ m + 1) (hm' : zs.length + ys.length ≤ m' + 1) (_h0 : 0 < ys.length) :
    (mulK m zs ys k).getD j 0 = (mulK m' zs ys k).getD j 0 := by
  induction k generalizing j with
  | zero =>
    have z : ∀ r, (List.replicate r (0 : Int)).getD j 0 = 0 := fun r => by
      have a := nums_zeros r j
      by_cases hj : j < r
      · simp [hj]
      · simp [List.getElem?_eq_none (show (List.replicate r (0 : Int)).length ≤ j by simp; omega)]
    rw [mulK, mulK, z, z]
  | succ k ih =>
    rw [mulK, mulK, addAtK_get _ _ _ _ _ _ (by rw [mulK_length]; omega), addAtK_get _ _ _ _ _ _ (by rw [mulK_length]; omega), ih j (by omega)]

def timesL (zs ys : List Int) : List Int := trimL (mulK (zs.length + ys.length) zs ys zs.length)

end Go.Proofs.Ytipdflbnnmghdaa
