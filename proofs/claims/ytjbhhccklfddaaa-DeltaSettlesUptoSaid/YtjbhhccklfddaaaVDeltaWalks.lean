/-
  DeltaWalks: how strong each variable is.
-/
import Derived.Test.YtjbhhccklfddaaaVNones
import Derived.Test.YtjbhhccklfddaaaVBRow
namespace Go.Proofs.Ytjbhhccklfddaaa
set_option maxRecDepth 20000
open Go.RowKit
end Go.Proofs.Ytjbhhccklfddaaa
