/- Chapter 15: EitherSecret of the model. Made by tools/gen15/c.py. -/
import Derived.Test.YtdhakbpimbadgaaWalk15c
namespace Go.Proofs.Ytdhakbpimbadgaa
open Go.RowKit
end Go.Proofs.Ytdhakbpimbadgaa
