/- Chapter 4: the iterator and what lists it, over SharesScale's closure. -/
import Derived.Test.YtbmjepmlalfpgaaWalk5f
namespace Go.Proofs.Ytbmjepmlalfpgaa
open Go.RowKit Go.Shelf
end Go.Proofs.Ytbmjepmlalfpgaa
