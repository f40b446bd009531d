/- Chapter 8 in the model: depths and degrees. -/
import Derived.Test.YtlagkinamnjnhaaWalk8i
import Derived.Test.YtlagkinamnjnhaaMath11
namespace Go.Proofs.Ytlagkinamnjnhaa
open Go.RowKit
set_option maxRecDepth 100000

/-- what both sides tell -/
def depV (d : Int × List (Int × Int × Int) × List Int) : Int := if circB d then mostK d.2.2 (tellK depG d.2.1 d.2.1.length) d.2.2.length else -1
def degV (d : Int × List (Int × Int × Int) × List Int) : Int := if circB d then min 1000 (mostK d.2.2 (tellK dcutG d.2.1 d.2.1.length) d.2.2.length) else -1

end Go.Proofs.Ytlagkinamnjnhaa
