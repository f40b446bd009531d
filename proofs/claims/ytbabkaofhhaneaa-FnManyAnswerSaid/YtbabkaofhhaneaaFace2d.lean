/- Chapter 2: PolyThrough as the laws meet it. Made by gen2face4.py. -/
import Derived.Test.YtbabkaofhhaneaaWalk2n
import Derived.Test.YtbabkaofhhaneaaFaceP
import Derived.Test.YtbabkaofhhaneaaFace2b
namespace Go.Proofs.Ytbabkaofhhaneaa
open Go.RowKit
set_option maxRecDepth 100000

def R_PolyThrough_1 (d : List (Int × Int)) : Bool := ptsB d
def R_PolyThrough_0 (d : List (Int × Int)) : List Int := if R_PolyThrough_1 d = true then thrS d d.length d.length else []

end Go.Proofs.Ytbabkaofhhaneaa
