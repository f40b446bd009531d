/- Chapter 2: what is a polynomial, as exported; its value at a number. -/
import Derived.Test.YtlajhgnlllelfaaWalk2a
namespace Go.Proofs.Ytlajhgnlllelfaa
open Go.RowKit

end Go.Proofs.Ytlajhgnlllelfaa
