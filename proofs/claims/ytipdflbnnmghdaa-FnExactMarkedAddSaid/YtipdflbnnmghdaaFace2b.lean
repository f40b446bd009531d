/- Chapter 2: PolyAdd, PolyMul as the laws meet them. Made by gen2face.py. -/
import Derived.Test.YtipdflbnnmghdaaMath2b
namespace Go.Proofs.Ytipdflbnnmghdaa
open Go.RowKit
set_option maxRecDepth 100000

theorem ret_vb {g : Value} {a b : Bool} (h : a = b) : Ending.returned (.tuple #[g, .bool a]) = .returned (.tuple #[g, .bool b]) := by rw [h]

end Go.Proofs.Ytipdflbnnmghdaa
