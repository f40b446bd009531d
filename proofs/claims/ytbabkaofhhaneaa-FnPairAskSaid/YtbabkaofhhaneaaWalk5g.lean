/- Chapter 4: the iterator and what lists it, over SharesScale's closure. -/
import Derived.Test.YtbabkaofhhaneaaWalk5f
namespace Go.Proofs.Ytbabkaofhhaneaa
open Go.RowKit Go.Shelf
end Go.Proofs.Ytbabkaofhhaneaa
