/- Chapter 15: tapes told back. Made by tools/gen15/e.py. -/
import Derived.Test.YtdhakbpimbadgaaWalk15c
import Derived.Test.YtdhakbpimbadgaaOwnGe
import Derived.Test.YtdhakbpimbadgaaFaceI
import Derived.Test.YtdhakbpimbadgaaAppend
namespace Go.Proofs.Ytdhakbpimbadgaa
open Go.RowKit
set_option maxRecDepth 100000

theorem Bx.grown {w w' : World} {b e : Nat} {cs : Array Value} {row : Option Nat} (h : Bx w b cs e) (hg : w.grownBy w' row) (hn : row ≠ some b) : Bx w' b cs e := (hg.block b h.lt (fun e => hn e.symm)).trans h

end Go.Proofs.Ytdhakbpimbadgaa
