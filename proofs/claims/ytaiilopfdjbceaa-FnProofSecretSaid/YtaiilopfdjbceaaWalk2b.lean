/- Chapter 2: what is a polynomial, as exported; its value at a number. -/
import Derived.Test.YtaiilopfdjbceaaWalk2a
namespace Go.Proofs.Ytaiilopfdjbceaa
open Go.RowKit

end Go.Proofs.Ytaiilopfdjbceaa
