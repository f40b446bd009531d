/- Chapter 4: the iterator and the list over SharesAdd's closure (made from XWalk5g, XWalk5h by tools/gen5.py) -/
import Derived.Test.YtbmjepmlalfpgaaWalk5h
namespace Go.Proofs.Ytbmjepmlalfpgaa
open Go.RowKit Go.Shelf
end Go.Proofs.Ytbmjepmlalfpgaa
