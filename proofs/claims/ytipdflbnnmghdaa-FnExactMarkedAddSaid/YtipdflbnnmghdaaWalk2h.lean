/- Chapter 2: products in the model. -/
import Derived.Test.YtipdflbnnmghdaaWalk2g
namespace Go.Proofs.Ytipdflbnnmghdaa
open Go.RowKit
set_option maxRecDepth 100000

def mulL (zs ys : List Int) : List Int := if zs.length = 0 ∨ ys.length = 0 then [] else trimL (mulK (zs.length + ys.length - 1) zs ys zs.length)

end Go.Proofs.Ytipdflbnnmghdaa
