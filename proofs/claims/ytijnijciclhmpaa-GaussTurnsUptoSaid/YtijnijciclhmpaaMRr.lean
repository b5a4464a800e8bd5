/-
  The document's rationals, fourth part: products, quotients, sums.
  The document's rationals, fifth part: quotients.
  The document's rationals, sixth part: sums.
-/
import Derived.Test.YtijnijciclhmpaaMRf
namespace Go.Proofs.Ytijnijciclhmpaa
set_option maxRecDepth 20000
open Go.RowKit

end Go.Proofs.Ytijnijciclhmpaa

namespace Go.Proofs.Ytijnijciclhmpaa
set_option maxRecDepth 20000
open Go.RowKit

end Go.Proofs.Ytijnijciclhmpaa

namespace Go.Proofs.Ytijnijciclhmpaa
set_option maxRecDepth 20000
open Go.RowKit

end Go.Proofs.Ytijnijciclhmpaa
