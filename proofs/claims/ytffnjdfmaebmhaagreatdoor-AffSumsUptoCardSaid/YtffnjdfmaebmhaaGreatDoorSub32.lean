/-
  A borrow: math/bits.Sub32.
-/
import Derived.Test.YtffnjdfmaebmhaaGreatDoorLeaf
namespace Go.Proofs.YtffnjdfmaebmhaaGreatDoor
set_option maxRecDepth 20000
open Go.RowKit

/-- The digit of a difference, and the borrow. -/
def dif (x y z : Nat) : Nat := if x < y + z then x + 4294967296 - (y + z) else x - (y + z)
def bor (x y z : Nat) : Nat := if x < y + z then 1 else 0
theorem dif_bor {x y z : Nat} (hx : x < 4294967296) (hy : y < 4294967296) (hz : z ≤ 1) : dif x y z + y + z = x + 4294967296 * bor x y z ∧ dif x y z < 4294967296 ∧ bor x y z ≤ 1 := by
  unfold dif bor; split <;> omega
theorem top_bit {n : Nat} (h : n < 4294967296) : n / 2147483648 = (n.testBit 31).toNat := by
  rw [Nat.testBit_eq_decide_div_mod_eq]
  have e : n / 2 ^ 31 = n / 2147483648 := rfl
  rw [e]
  have : n / 2147483648 = 0 ∨ n / 2147483648 = 1 := by omega
  rcases this with h | h <;> rw [h] <;> rfl
theorem bor_num {x y z : Nat} (hx : x < 4294967296) (hy : y < 4294967296) (hz : z ≤ 1) :
    (((4294967295 ^^^ x) &&& y) ||| ((4294967295 ^^^ (x ^^^ y)) &&& dif x y z)) / 2147483648 = bor x y z := by
  have hd := (dif_bor hx hy hz).2.1
  have e : (4294967296 : Nat) = 2 ^ 32 := rfl
  have b1 : (4294967295 ^^^ x) &&& y < 2 ^ 32 := Nat.and_lt_two_pow _ (by omega)
  have b2 : (4294967295 ^^^ (x ^^^ y)) &&& dif x y z < 2 ^ 32 := Nat.and_lt_two_pow _ (by omega)
  rw [top_bit (by rw [e]; exact Nat.or_lt_two_pow b1 b2)]
  have m : Nat.testBit 4294967295 31 = true := by decide
  simp only [Nat.testBit_or, Nat.testBit_and, Nat.testBit_xor, m]
  simp only [Nat.testBit_eq_decide_div_mod_eq]
  have e31 : (2 : Nat) ^ 31 = 2147483648 := rfl
  rw [e31]
  have hX : x / 2147483648 % 2 = 0 ∨ x / 2147483648 % 2 = 1 := by omega
  have hY : y / 2147483648 % 2 = 0 ∨ y / 2147483648 % 2 = 1 := by omega
  have hD : dif x y z / 2147483648 % 2 = 0 ∨ dif x y z / 2147483648 % 2 = 1 := by omega
  rcases hX with hX | hX <;> rcases hY with hY | hY <;> rcases hD with hD | hD <;> rw [hX, hY, hD] <;> simp <;> unfold dif at hD <;> unfold bor <;> split at hD <;> (first | (rw [if_pos (by assumption)]) | (rw [if_neg (by assumption)])) <;> omega

theorem bor_bits {x y z : Nat} (hx : x < 4294967296) (hy : y < 4294967296) (hz : z ≤ 1) :
    bits BinOp.or IntKind.u32 (bits BinOp.and IntKind.u32 (bits BinOp.xor IntKind.u32 IntKind.u32.max ↑x) ↑y) (bits BinOp.and IntKind.u32 (bits BinOp.xor IntKind.u32 IntKind.u32.max (bits BinOp.xor IntKind.u32 ↑x ↑y)) (((x : Int) - ↑y - ↑z) % 4294967296)) / 2147483648 = ((bor x y z : Nat) : Int) := by
  have hd := (dif_bor hx hy hz).2.1
  have ed : ((x : Int) - ↑y - ↑z) % 4294967296 = ((dif x y z : Nat) : Int) := by
    unfold dif; split <;> omega
  have em : IntKind.u32.max = ((4294967295 : Nat) : Int) := rfl
  have e : (4294967296 : Nat) = 2 ^ 32 := rfl
  have c1 : 4294967295 ^^^ x < 2 ^ 32 := Nat.xor_lt_two_pow (by omega) (by omega)
  have c2 : x ^^^ y < 2 ^ 32 := Nat.xor_lt_two_pow (by omega) (by omega)
  have c3 : 4294967295 ^^^ (x ^^^ y) < 2 ^ 32 := Nat.xor_lt_two_pow (by omega) c2
  have b1 : (4294967295 ^^^ x) &&& y < 2 ^ 32 := Nat.and_lt_two_pow _ (by omega)
  have b2 : (4294967295 ^^^ (x ^^^ y)) &&& dif x y z < 2 ^ 32 := Nat.and_lt_two_pow _ (by omega)
  rw [ed, em, u32_xor_nat 4294967295 x (by omega) hx, u32_xor_nat x y hx hy, u32_xor_nat 4294967295 _ (by omega) (by omega), u32_and_nat _ y (by omega) hy, u32_and_nat _ _ (by omega) hd, u32_or_nat _ _ (by omega) (by omega)]
  rw [← bor_num hx hy hz]
  omega

set_option maxHeartbeats 400000 in
theorem Sub32_any (x y z : Nat) (w : World) (hx : x < 4294967296) (hy : y < 4294967296) (hz : z ≤ 1) :
    Calls Tryz.prog 124 #[.int .u32 (x : Int), .int .u32 (y : Int), .int .u32 (z : Int)] w fun e w' => e = .returned (.tuple #[.int .u32 ((dif x y z : Nat) : Int), .int .u32 ((bor x y z : Nat) : Int)]) ∧ w = w' := by
  have e1 : Hid (((x : Int) - ↑y - ↑z) % 4294967296 = ((dif x y z : Nat) : Int)) := by
    show _ = _
    unfold dif; split <;> omega
  have e2 := Lib.hid (bor_bits hx hy hz)
  have hs : IntKind.u32.signed = false := rfl
  go_enter Tryz.func124, Tryz.ntmps124
  go_wp2
  go_ret2
  have e3 : (((x : Int) - ↑y) % 4294967296 - ↑z) % 4294967296 = ((x : Int) - ↑y - ↑z) % 4294967296 := by omega
  exact ⟨ret_int2 (by rw [e3]; exact e1.out) e2.out, rfl⟩
end Go.Proofs.YtffnjdfmaebmhaaGreatDoor
