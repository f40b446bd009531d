/- Chapter 2: sums and products in the model. -/
import Derived.Test.YtipdflbnnmghdaaWalk2f
namespace Go.Proofs.Ytipdflbnnmghdaa
open Go.RowKit
set_option maxRecDepth 100000

/-- the first k places of a sum, in a row of m places -/
def addS (m : Nat) (zs ys : List Int) : Nat → List Int
  | 0 => List.replicate m 0
  | k + 1 => (addS m zs ys k).set k ((zs.getD k 0 + ys.getD k 0) % 113)
theorem addS_length (m : Nat) (zs ys : List Int) (k : Nat) : (addS m zs ys k).length = m := by
  induction k with
  | zero => simp [addS]
  | succ k ih => rw [addS, List.length_set, ih]
theorem zeros_get (m j : Nat) : (List.replicate m (0 : Int)).getD j 0 = 0 := by
  by_cases hj : j < m
  · simp [hj]
  · simp [List.getElem?_eq_none (show (List.replicate m (0 : Int)).length ≤ j by simp; omega)]
theorem addS_get (m : Nat) (zs ys : List Int) (k j : Nat) (h : k ≤ m) : (addS m zs ys k).getD j 0 = if j < k then (zs.getD j 0 + ys.getD j 0) % 113 else 0 := by
  induction k with
  | zero => rw [addS, zeros_get, if_neg (by omega)]
  | succ k ih =>
    rw [addS, getD_set, addS_length]
    by_cases h1 : k = j
    · subst h1; rw [if_pos ⟨rfl, by omega⟩, if_pos (by omega)]
    · rw [if_neg (by omega), ih (by omega)]
      by_cases h2 : j < k
      · rw [if_pos h2, if_pos (by omega)]
      · rw [if_neg h2, if_neg (by omega)]
def addL (zs ys : List Int) : List Int := trimL (addS (max zs.length ys.length) zs ys (max zs.length ys.length))
theorem getD_out (zs : List Int) (j : Nat) (h : zs.length ≤ j) : zs.getD j 0 = 0 := by simp [List.getElem?_eq_none h]
theorem add_step (w : World) (lo hi n c k : Nat) (g : Nat) (m : Nat) (zs ys : List Int) (v : Int) (h : Ow w lo hi 3 1 (some ⟨g, 0, none⟩) n c (cI (addS m zs ys k))) (hv : v = (zs.getD k 0 + ys.getD k 0) % 113) :
    Ow (w.setCell ⟨g, k, none⟩ (.int .i64 v)) lo hi 3 1 (some ⟨g, 0, none⟩) n c (cI (addS m zs ys (k + 1))) := by
  have := h.set k (.int .i64 v)
  rw [cI_set] at this
  rw [addS, ← hv]; exact this

end Go.Proofs.Ytipdflbnnmghdaa
