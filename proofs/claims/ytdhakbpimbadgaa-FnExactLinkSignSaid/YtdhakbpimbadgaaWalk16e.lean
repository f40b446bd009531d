/- Chapter 16: tapes told back. Made by tools/gen15/e.py. -/
import Derived.Test.YtdhakbpimbadgaaWalk15e
import Derived.Test.YtdhakbpimbadgaaWalk16b
namespace Go.Proofs.Ytdhakbpimbadgaa
open Go.RowKit
end Go.Proofs.Ytdhakbpimbadgaa
