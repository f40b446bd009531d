/- Chapter 2: PolyThrough as the laws meet it. Made by gen2face4.py. -/
import Derived.Test.YtpaaimmakkfbkaaWalk2n
import Derived.Test.YtpaaimmakkfbkaaFaceP
import Derived.Test.YtpaaimmakkfbkaaFace2b
namespace Go.Proofs.Ytpaaimmakkfbkaa
open Go.RowKit
set_option maxRecDepth 100000

def R_PolyThrough_1 (d : List (Int × Int)) : Bool := ptsB d
def R_PolyThrough_0 (d : List (Int × Int)) : List Int := if R_PolyThrough_1 d = true then thrS d d.length d.length else []

end Go.Proofs.Ytpaaimmakkfbkaa
