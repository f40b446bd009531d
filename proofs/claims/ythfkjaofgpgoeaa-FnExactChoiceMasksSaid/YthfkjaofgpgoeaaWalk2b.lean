/- Chapter 2: what is a polynomial, as exported; its value at a number. -/
import Derived.Test.YthfkjaofgpgoeaaWalk2a
namespace Go.Proofs.Ythfkjaofgpgoeaa
open Go.RowKit

end Go.Proofs.Ythfkjaofgpgoeaa
