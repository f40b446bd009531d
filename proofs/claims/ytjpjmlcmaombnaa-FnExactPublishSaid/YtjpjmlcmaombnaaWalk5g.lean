/- Chapter 4: the iterator and what lists it, over SharesScale's closure. -/
import Derived.Test.YtjpjmlcmaombnaaWalk5f
namespace Go.Proofs.Ytjpjmlcmaombnaa
open Go.RowKit Go.Shelf
end Go.Proofs.Ytjpjmlcmaombnaa
