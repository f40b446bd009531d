/- Whether an index lies in a list's length. -/
import Derived.Test.YtbnobkojkfmccaaWalk3a
import Derived.Test.YtbnobkojkfmccaaWalk2a
namespace Go.Proofs.Ytbnobkojkfmccaa
open Go.RowKit
end Go.Proofs.Ytbnobkojkfmccaa
