/- Chapter 2: what is a polynomial, as exported; its value at a number. -/
import Derived.Test.YtpejigfndkdhcaaWalk2a
namespace Go.Proofs.Ytpejigfndkdhcaa
open Go.RowKit

end Go.Proofs.Ytpejigfndkdhcaa
