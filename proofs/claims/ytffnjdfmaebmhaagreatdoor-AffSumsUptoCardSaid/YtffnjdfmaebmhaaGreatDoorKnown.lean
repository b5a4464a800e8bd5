/-
  The known carry, as every law asks it.
-/
import Derived.Test.YtffnjdfmaebmhaaGreatDoorNMul
namespace Go.Proofs.YtffnjdfmaebmhaaGreatDoor
set_option maxRecDepth 20000
open Go.RowKit

theorem Row.two {w : World} {x y : Nat} {u v : Int} {lo : Nat} (hu : u = (x : Int)) (hv : v = (y : Int)) (hx : x < 4294967296) (hy : y < 4294967296) (hlo : lo ≤ w.heap.size) : Row (w.alloc (.cells #[.int .u32 u, .int .u32 v] 74)) lo (some ⟨w.heap.size, 0, none⟩) 2 [x, y] := by
  subst hu hv
  refine ⟨rfl, L32.cons hx (L32.cons hy L32.nil), fun _ => ⟨w.heap.size, 0, rfl, hlo, by simp, fun j hj => ?_⟩⟩
  have : j = 0 ∨ j = 1 := by omega
  rcases this with rfl | rfl
  · rw [World.cell?_alloc_at _ _ _ _ rfl]; rfl
  · rw [World.cell?_alloc_at _ _ _ _ rfl]; rfl
theorem lim_zero_of {n : Nat} (h : n = 0) : lim n = [] := by subst h; exact lim_zero
end Go.Proofs.YtffnjdfmaebmhaaGreatDoor
