/- Chapter 4: the iterator and what lists it, over SharesScale's closure. -/
import Derived.Test.YtbnobkojkfmccaaWalk5f
namespace Go.Proofs.Ytbnobkojkfmccaa
open Go.RowKit Go.Shelf
end Go.Proofs.Ytbnobkojkfmccaa
