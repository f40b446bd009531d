/- Chapter 2: what is a polynomial, as exported; its value at a number. -/
import Derived.Test.YtipdflbnnmghdaaWalk2a
namespace Go.Proofs.Ytipdflbnnmghdaa
open Go.RowKit

end Go.Proofs.Ytipdflbnnmghdaa
