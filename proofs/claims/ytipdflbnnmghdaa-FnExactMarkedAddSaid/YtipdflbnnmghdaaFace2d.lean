/- Chapter 2: PolyThrough as the laws meet it. Made by gen2face4.py. -/
import Derived.Test.YtipdflbnnmghdaaWalk2n
import Derived.Test.YtipdflbnnmghdaaFaceP
import Derived.Test.YtipdflbnnmghdaaFace2b
namespace Go.Proofs.Ytipdflbnnmghdaa
open Go.RowKit
set_option maxRecDepth 100000

def R_PolyThrough_1 (d : List (Int × Int)) : Bool := ptsB d
def R_PolyThrough_0 (d : List (Int × Int)) : List Int := if R_PolyThrough_1 d = true then thrS d d.length d.length else []

end Go.Proofs.Ytipdflbnnmghdaa
