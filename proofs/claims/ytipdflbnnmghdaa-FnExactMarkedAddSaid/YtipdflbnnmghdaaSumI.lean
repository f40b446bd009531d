/- Sums of numbers. -/
import Derived.Test.YtipdflbnnmghdaaWalk2g
namespace Go.Proofs.Ytipdflbnnmghdaa
open Go.RowKit

/-- the sum of the first k -/
def sumK (zs : List Int) : Nat → Int
  | 0 => 0
  | k + 1 => (sumK zs k + zs.getD k 0) % 113
def sumI (zs : List Int) : Int := sumK zs zs.length
theorem sumK_bd (zs : List Int) (k : Nat) : 0 ≤ sumK zs k ∧ sumK zs k ≤ 112 := by
  cases k <;> simp only [sumK] <;> omega
theorem sumI_bd (zs : List Int) : 0 ≤ sumI zs ∧ sumI zs ≤ 112 := sumK_bd zs _
end Go.Proofs.Ytipdflbnnmghdaa
