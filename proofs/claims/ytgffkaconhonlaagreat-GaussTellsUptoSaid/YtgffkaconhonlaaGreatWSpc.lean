/-
  Rows of sums that a law makes, in regions that draw their order.
-/
import Derived.Test.YtgffkaconhonlaaGreatWClo
import Derived.Laws.AppendOwn
import Derived.Deep.AppendLies
namespace Go.Proofs.YtgffkaconhonlaaGreat
set_option maxRecDepth 20000
open Go.RowKit
theorem kons_one {w : World} {G : Nat} {v : Cv} (hG : w.heap[G]? = some (.cells #[.int .i64 v.s, .slice v.A v.n v.c, .bool v.K.s, .slice v.K.A v.K.n v.K.c, .slice v.K.B v.K.m v.K.d] 28 (0, 0))) : Kons w (some ⟨G, 0, none⟩) 1 [v] :=
 ⟨rfl, fun _ => ⟨G, 0, rfl, (Array.getElem?_eq_some_iff.1 hG).1, fun i x hx => by
  have hi : i < 1 := (List.getElem?_eq_some_iff.1 hx).1
  have : i = 0 := by omega
  subst this
  injection hx with hx; subst hx
  constructor <;> simp [World.cell?, hG]⟩⟩
end Go.Proofs.YtgffkaconhonlaaGreat
