/-
  The document's rationals, fourth part: products, quotients, sums.
  The document's rationals, fifth part: quotients.
  The document's rationals, sixth part: sums.
-/
import Derived.Test.YtjbhhccklfddaaaVMRf
namespace Go.Proofs.Ytjbhhccklfddaaa
set_option maxRecDepth 20000
open Go.RowKit
end Go.Proofs.Ytjbhhccklfddaaa
namespace Go.Proofs.Ytjbhhccklfddaaa
set_option maxRecDepth 20000
open Go.RowKit
end Go.Proofs.Ytjbhhccklfddaaa
namespace Go.Proofs.Ytjbhhccklfddaaa
set_option maxRecDepth 20000
open Go.RowKit
end Go.Proofs.Ytjbhhccklfddaaa
