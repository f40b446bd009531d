/- Chapter 2: what is a polynomial, as exported; its value at a number. -/
import Derived.Test.YtlagkinamnjnhaaWalk2a
namespace Go.Proofs.Ytlagkinamnjnhaa
open Go.RowKit

end Go.Proofs.Ytlagkinamnjnhaa
