/-
  How often, and what is left: the document's DivMod, bit by bit.
-/
import Derived.Test.YtojgpoochclnfaaSmall
import Derived.Test.YtojgpoochclnfaaRShiftN
import Derived.Test.YtojgpoochclnfaaGcd
namespace Go.Proofs.Ytojgpoochclnfaa
open Go.RowKit

set_option maxHeartbeats 400000 in
theorem rDivMod_zero (A B : Option Addr) (n m c d : Nat) (b : List Nat) (w : World) (hm : m ≤ 1000) (hdm : m ≤ d) (hb : Row w 0 B m b) (hy : val b = 0) :
    Calls Try.prog 22 #[.slice A n c, .slice B m d] w fun e w' => e = .returned (.tuple #[.slice none 0 0, .slice none 0 0, .bool false]) ∧ Below w.heap.size w w' := by
  have hl : Hid ((lim (val b)).length = 0) := by show _ = _; rw [hy, lim_zero]; rfl
  have hbl : (((lim (val b)).length : Int) == 0) = true := by rw [beq_iff_eq]; have := hl.out; omega
  clear hy
  go_enter Try.func22, Try.ntmps22
  go_wp2_with fail
  refine (rTrim_any B m d b _ (by omega) hdm hb).mono ?_
  rintro e w1 ⟨X, cx, rfl, ho, hb1⟩
  clear ho
  go_wp2
  go_ret3
  exact ⟨rfl, hb1⟩
end Go.Proofs.Ytojgpoochclnfaa
