/-
  How many bits a row takes; a row as 64 bits, and back: both ways.
-/
import Derived.Test.YtffnjdfmaebmhaaGreatDoorLen
import Derived.Test.YtffnjdfmaebmhaaGreatDoorShiftDn
namespace Go.Proofs.YtffnjdfmaebmhaaGreatDoor
set_option maxRecDepth 20000
open Go.RowKit

/-- How many bits a number takes. -/
def nbits (x : Nat) : Nat := if (lim x).length = 0 then 0 else 32 * ((lim x).length - 1) + Lib.bitLen (dg (lim x) ((lim x).length - 1))
theorem bitLen_half {y : Nat} (h0 : 0 < y) (hy : y < 4294967296) : Lib.bitLen y = 1 + Lib.bitLen (y / 2) := by
  have e : Lib.bitLenAux 64 (y / 2) = Lib.bitLenAux 63 (y / 2) := Lib.bitLenAux_fuel 63 (y / 2) (by omega) 64 (by omega)
  unfold Lib.bitLen
  rw [e]
  show (if y = 0 then 0 else 1 + Lib.bitLenAux 63 (y / 2)) = _
  rw [if_neg (by omega)]
theorem bitLen_le32 {y : Nat} (hy : y < 4294967296) : Lib.bitLen y ≤ 32 := by
  have e : Lib.bitLenAux 64 y = Lib.bitLenAux 32 y := Lib.bitLenAux_fuel 32 y (by omega) 64 (by omega)
  unfold Lib.bitLen
  rw [e]
  have h : ∀ f x, Lib.bitLenAux f x ≤ f := by
    intro f
    induction f with
    | zero => intro x; simp [Lib.bitLenAux]
    | succ f ih => intro x; simp only [Lib.bitLenAux]; split
                   · omega
                   · have := ih (x / 2); omega
  exact h 32 y

set_option maxHeartbeats 800000 in
theorem Bits_any (A : Option Addr) (n c : Nat) (a : List Nat) (w : World) (hn : n ≤ 100000) (hcn : n ≤ c) (ha : Row w 0 A n a) :
    Calls Tryz.prog 80 #[.slice A n c] w fun e w' => e = .returned (.int .i64 (nbits (val a) : Nat)) ∧ w = w' := by
  have hla := ha.lim
  have hna : (lim (val a)).length ≤ n := by have := lim_len_le ha.l32; have := ha.len; omega
  by_cases h0 : (lim (val a)).length = 0
  · have E : Hid (nbits (val a) = 0) := by show _ = _; unfold nbits; rw [if_pos h0]
    have h0' : (lim (val a)).length ≤ 0 := by omega
    have hb : (((lim (val a)).length : Int) == 0) = true := by rw [beq_iff_eq]; omega
    clear h0
    go_enter Tryz.func80, Tryz.ntmps80
    go_wp2_with fail
    refine (head_any A n c a _ (by omega) hcn ha).mono ?_
    rintro e w' ⟨rfl, rfl⟩
    go_wp2
    go_ret
    exact ⟨ret_int (by rw [E.out]; rfl), rfl⟩
  · have E : Hid (nbits (val a) = 32 * ((lim (val a)).length - 1) + Lib.bitLen (dg (lim (val a)) ((lim (val a)).length - 1))) := by show _ = _; unfold nbits; rw [if_neg h0]
    have hb : (((lim (val a)).length : Int) == 0) = false := by rw [beq_eq_false_iff_ne]; omega
    have hp : 0 < (lim (val a)).length := by omega
    obtain ⟨b, off, rfl, h1, h2, hc⟩ := hla.mem hp
    have hcb := hc ((lim (val a)).length - 1) (by omega)
    have hx := hla.l32 ((lim (val a)).length - 1)
    have hle := bitLen_le32 hx
    have hL := fun (w : World) => Len32_any (dg (lim (val a)) ((lim (val a)).length - 1)) w hx
    have HL := Lib.hid hL
    clear h0 hc hL
    go_enter Tryz.func80, Tryz.ntmps80
    go_wp2_with fail
    refine (head_any _ n c a _ (by omega) hcn ha).mono ?_
    rintro e w' ⟨rfl, rfl⟩
    go_wp2_with fail
    refine (HL.out _).mono ?_
    rintro e w' ⟨rfl, rfl⟩
    go_wp2
    go_ret
    exact ⟨ret_int (by rw [E.out]; omega), rfl⟩

end Go.Proofs.YtffnjdfmaebmhaaGreatDoor
