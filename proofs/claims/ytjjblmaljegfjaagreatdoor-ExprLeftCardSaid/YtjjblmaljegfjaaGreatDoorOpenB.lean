/-
  A law's argument opened: a slice of bools that is read as data.
-/
import Derived.Test.YtjjblmaljegfjaaGreatDoorExprLeft
import Derived.Test.YtjjblmaljegfjaaGreatDoorMLd
import Derived.Deep.Grids
namespace Go.Proofs.YtjjblmaljegfjaaGreatDoor
set_option maxRecDepth 20000
open Go.Deep Go.ChangeShapes Go.WideShapes Go.ChangeAt Go.RowKit

theorem Tryz.cells4 : Tryz.prog.cellsOf 4 = 1 := by kernel_rfl
set_option maxRecDepth 100000 in
theorem open_brow {H : Type} {enc : TypeId × Value → H} {W : World} {v : Value} {d : DataW H} {p : List MemPlace} (h0 : DataW.Trod enc Tryz.prog W 0 (fun _ => true) true 44 v d p)
    {base : Nat} (hval : Value.okWide Tryz.prog W .any base 44 v) (hlt : ∀ x ∈ p, x.block < W.heap.size) :
    ∃ A n c bs, v = .slice A n c ∧ BRow W A n bs := by
  obtain ⟨a0, len, cap, rfl⟩ := okWide_slice Tryz.underlying44 hval
  obtain ⟨fuel, hf⟩ := h0
  rcases open_bools Tryz.underlying44 Tryz.underlying4 Tryz.cells4 hf with ⟨hcs, hx⟩ | ⟨a, len', cap', B, hcs, _, hl, hm, hx, hcell⟩
  · simp [Value.cells] at hcs
    obtain ⟨rfl, rfl, rfl⟩ := hcs
    exact ⟨none, 0, 0, [], rfl, rfl, fun h => absurd h (by omega)⟩
  · simp [Value.cells] at hcs
    obtain ⟨rfl, rfl, rfl⟩ := hcs
    simp only [Prod.mk.injEq] at hx
    obtain ⟨_, rfl⟩ := hx
    refine ⟨some a, len, cap, (List.range len).map B, rfl, by simp, fun hn => ?_⟩
    obtain ⟨b, off, spot⟩ := a
    have hspot : spot = none := by simpa [Addr.add] using World.cell?_spot (hcell 0 (by omega))
    subst hspot
    have hbW : b < W.heap.size := hlt (.cell b off) (MemPlace.mem_row.2 ⟨0, by omega, by simp⟩)
    refine ⟨b, off, rfl, hbW, fun i hi => ?_⟩
    rw [← add_plain, hcell i (by omega)]
    simp [List.getD, hi]
end Go.Proofs.YtjjblmaljegfjaaGreatDoor
