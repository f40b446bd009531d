/- Chapter 2: PolyAt. -/
import Derived.Test.YthfkjaofgpgoeaaWalk2b
namespace Go.Proofs.Ythfkjaofgpgoeaa
open Go.RowKit

def polyAtB (zs : List Int) (x : Int) : Bool := polyB zs && numB x
def polyAtV (zs : List Int) (x : Int) : Int := if polyAtB zs x = true then atI zs x else 0
theorem ret_ib2 {k : IntKind} {a b : Int} {c d : Bool} (h : a = b) (h2 : c = d) : Ending.returned (.tuple #[.int k a, .bool c]) = .returned (.tuple #[.int k b, .bool d]) := by rw [h, h2]
theorem polyAt_no {zs : List Int} {x : Int} (h : polyAtB zs x = false) : (0 : Int) = polyAtV zs x := by simp [polyAtV, h]
theorem polyAt_yes {zs : List Int} {x : Int} (h : polyAtB zs x = true) : atI zs x = polyAtV zs x := by simp [polyAtV, h]

end Go.Proofs.Ythfkjaofgpgoeaa
