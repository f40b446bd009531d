/- Chapter 3 in the model: a matrix times a list. -/
import Derived.Test.YtipdflbnnmghdaaWalk3a
import Derived.Test.YtipdflbnnmghdaaAppend
namespace Go.Proofs.Ytipdflbnnmghdaa
open Go.RowKit
set_option maxRecDepth 100000

/-- the sum of the first k products -/
def dotK (r x : List Int) : Nat → Int
  | 0 => 0
  | k + 1 => (dotK r x k + r.getD k 0 * x.getD k 0) % 113
theorem dotK_lo (r x : List Int) (k : Nat) : 0 ≤ dotK r x k ∧ dotK r x k ≤ 112 := by
  cases k with
  | zero => simp [dotK]
  | succ k => rw [dotK]; omega
def matTimes (d : List (List Int)) (x : List Int) (k : Nat) : List Int := (List.range k).map fun i => dotK (d.getD i []) x x.length
theorem matTimes_succ (d : List (List Int)) (x : List Int) (k : Nat) : matTimes d x (k + 1) = matTimes d x k ++ [dotK (d.getD k []) x x.length] := by simp [matTimes, List.range_succ]
theorem matTimes_length (d : List (List Int)) (x : List Int) (k : Nat) : (matTimes d x k).length = k := by simp [matTimes]
theorem cI_append (xs ys : List Int) : cI (xs ++ ys) = cI xs ++ cI ys := by simp [cI]
/-- what a row grown from nothing comes to -/
theorem own_done {w1 : World} {B e k : Nat} {v : Value} {ys : List Int} (he : e = 3) (h : w1.ownsRow B e 1 v k (cI ys)) (hs : k ≤ 1048576) : OwIntS w1 B w1.heap.size v ys := by
  subst he
  obtain ⟨A, c, rfl, ho⟩ := Ow.of_own h
  exact ⟨by have := ho.len; omega, A, _, c, rfl, ho⟩
/-- a block of one's own and what comes of an append -/
theorem below_append {B : Nat} {w w0 w1 : World} {v : Value} (hb : Below B w0 w) (hg : w.grownBy w1 v.ownBlock) (hv : ∀ g, v.ownBlock = some g → B ≤ g) (hB : B ≤ w.heap.size) : Below B w0 w1 := hb.grown hg hB hv
theorem own_block {w : World} {B e size n : Nat} {v : Value} {xs : List Value} (h : w.ownsRow B e size v n xs) : ∀ g, v.ownBlock = some g → B ≤ g := fun g hg => (h.lt g hg).1

end Go.Proofs.Ytipdflbnnmghdaa
