/- Chapter 2: PolyThrough as the laws meet it. Made by gen2face4.py. -/
import Derived.Test.YtaiilopfdjbceaaWalk2n
import Derived.Test.YtaiilopfdjbceaaFaceP
import Derived.Test.YtaiilopfdjbceaaFace2b
namespace Go.Proofs.Ytaiilopfdjbceaa
open Go.RowKit
set_option maxRecDepth 100000

def R_PolyThrough_1 (d : List (Int × Int)) : Bool := ptsB d
def R_PolyThrough_0 (d : List (Int × Int)) : List Int := if R_PolyThrough_1 d = true then thrS d d.length d.length else []

end Go.Proofs.Ytaiilopfdjbceaa
