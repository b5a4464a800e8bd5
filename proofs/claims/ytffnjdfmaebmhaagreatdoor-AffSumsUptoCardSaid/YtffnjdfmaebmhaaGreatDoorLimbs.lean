/-
  limbs: two rows that read as one list are told to be one.
-/
import Derived.Test.YtffnjdfmaebmhaaGreatDoorLeaf
namespace Go.Proofs.YtffnjdfmaebmhaaGreatDoor
set_option maxRecDepth 20000
open Go.RowKit

end Go.Proofs.YtffnjdfmaebmhaaGreatDoor
