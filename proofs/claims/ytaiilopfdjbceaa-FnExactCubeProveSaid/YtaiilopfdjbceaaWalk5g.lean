/- Chapter 4: the iterator and what lists it, over SharesScale's closure. -/
import Derived.Test.YtaiilopfdjbceaaWalk5f
namespace Go.Proofs.Ytaiilopfdjbceaa
open Go.RowKit Go.Shelf
end Go.Proofs.Ytaiilopfdjbceaa
