/-
  A borrow: math/bits.Sub32.
  One less the other: the program's way.
  How many bits a limb takes: math/bits.Len32.
  How many bits a row takes; a row as 64 bits, and back: both ways.
  A row as 64 bits, and 64 bits as a row: both ways.
  Plain numbers: a digit of a quotient, guessed by the highest limbs.
  A digit of a quotient, guessed.
  A piece less so often the divisor, and made up for.
  One digit of a quotient is taken out of a piece.
  Plain numbers: a divisor shifted till its highest bit is set; what the loop of a long division keeps.
-/
import Derived.Test.YtjbhhccklfddaaaVMNa
import Derived.Test.YtjbhhccklfddaaaVMNb
import Derived.Lib.Strings
import Derived.Lib.Slices
import Derived.Lib.Small
import Derived.Lib.Walk
import Derived.Lib.BitFns
import Derived.Test.YtjbhhccklfddaaaVMNc
namespace Go.Proofs.Ytjbhhccklfddaaa
set_option maxRecDepth 20000
open Go.RowKit
def dif (x y z : Nat) : Nat := if x < y + z then x + 4294967296 - (y + z) else x - (y + z)
def bor (x y z : Nat) : Nat := if x < y + z then 1 else 0
theorem dif_bor {x y z : Nat} (hx : x < 4294967296) (hy : y < 4294967296) (hz : z ≤ 1) : dif x y z + y + z = x + 4294967296 * bor x y z ∧ dif x y z < 4294967296 ∧ bor x y z ≤ 1 := by
 unfold dif bor; split <;> omega
theorem top_bit {n : Nat} (h : n < 4294967296) : n / 2147483648 = (n.testBit 31).toNat := by
 rw [Nat.testBit_eq_decide_div_mod_eq]
 have e : n / 2 ^ 31 = n / 2147483648 := rfl
 rw [e]
 have : n / 2147483648 = 0 ∨ n / 2147483648 = 1 := by omega
 rcases this with h | h <;> rw [h] <;> rfl
theorem bor_num {x y z : Nat} (hx : x < 4294967296) (hy : y < 4294967296) (hz : z ≤ 1) :
  (((4294967295 ^^^ x) &&& y) ||| ((4294967295 ^^^ (x ^^^ y)) &&& dif x y z)) / 2147483648 = bor x y z := by
 have hd := (dif_bor hx hy hz).2.1
 have e : (4294967296 : Nat) = 2 ^ 32 := rfl
 have b1 : (4294967295 ^^^ x) &&& y < 2 ^ 32 := Nat.and_lt_two_pow _ (by omega)
 have b2 : (4294967295 ^^^ (x ^^^ y)) &&& dif x y z < 2 ^ 32 := Nat.and_lt_two_pow _ (by omega)
 rw [top_bit (by rw [e]; exact Nat.or_lt_two_pow b1 b2)]
 have m : Nat.testBit 4294967295 31 = true := by decide
 simp only [Nat.testBit_or, Nat.testBit_and, Nat.testBit_xor, m]
 simp only [Nat.testBit_eq_decide_div_mod_eq]
 have e31 : (2 : Nat) ^ 31 = 2147483648 := rfl
 rw [e31]
 have hX : x / 2147483648 % 2 = 0 ∨ x / 2147483648 % 2 = 1 := by omega
 have hY : y / 2147483648 % 2 = 0 ∨ y / 2147483648 % 2 = 1 := by omega
 have hD : dif x y z / 2147483648 % 2 = 0 ∨ dif x y z / 2147483648 % 2 = 1 := by omega
 rcases hX with hX | hX <;> rcases hY with hY | hY <;> rcases hD with hD | hD <;> rw [hX, hY, hD] <;> simp <;> unfold dif at hD <;> unfold bor <;> split at hD <;> (first | (rw [if_pos (by assumption)]) | (rw [if_neg (by assumption)])) <;> omega
theorem bor_bits {x y z : Nat} (hx : x < 4294967296) (hy : y < 4294967296) (hz : z ≤ 1) :
  bits BinOp.or IntKind.u32 (bits BinOp.and IntKind.u32 (bits BinOp.xor IntKind.u32 IntKind.u32.max ↑x) ↑y) (bits BinOp.and IntKind.u32 (bits BinOp.xor IntKind.u32 IntKind.u32.max (bits BinOp.xor IntKind.u32 ↑x ↑y)) (((x : Int) - ↑y - ↑z) % 4294967296)) / 2147483648 = ((bor x y z : Nat) : Int) := by
 have hd := (dif_bor hx hy hz).2.1
 have ed : ((x : Int) - ↑y - ↑z) % 4294967296 = ((dif x y z : Nat) : Int) := by
  unfold dif; split <;> omega
 have em : IntKind.u32.max = ((4294967295 : Nat) : Int) := rfl
 have e : (4294967296 : Nat) = 2 ^ 32 := rfl
 have c1 : 4294967295 ^^^ x < 2 ^ 32 := Nat.xor_lt_two_pow (by omega) (by omega)
 have c2 : x ^^^ y < 2 ^ 32 := Nat.xor_lt_two_pow (by omega) (by omega)
 have c3 : 4294967295 ^^^ (x ^^^ y) < 2 ^ 32 := Nat.xor_lt_two_pow (by omega) c2
 have b1 : (4294967295 ^^^ x) &&& y < 2 ^ 32 := Nat.and_lt_two_pow _ (by omega)
 have b2 : (4294967295 ^^^ (x ^^^ y)) &&& dif x y z < 2 ^ 32 := Nat.and_lt_two_pow _ (by omega)
 rw [ed, em, u32_xor_nat 4294967295 x (by omega) hx, u32_xor_nat x y hx hy, u32_xor_nat 4294967295 _ (by omega) (by omega), u32_and_nat _ y (by omega) hy, u32_and_nat _ _ (by omega) hd, u32_or_nat _ _ (by omega) (by omega)]
 rw [← bor_num hx hy hz]
 omega
set_option maxHeartbeats 400000 in
theorem Sub32_any (x y z : Nat) (w : World) (hx : x < 4294967296) (hy : y < 4294967296) (hz : z ≤ 1) :
  Calls Try.prog 110 #[.int .u32 (x : Int), .int .u32 (y : Int), .int .u32 (z : Int)] w fun e w' => e = .returned (.tuple #[.int .u32 ((dif x y z : Nat) : Int), .int .u32 ((bor x y z : Nat) : Int)]) ∧ w = w' := by
 have e1 : Hid (((x : Int) - ↑y - ↑z) % 4294967296 = ((dif x y z : Nat) : Int)) := by
  show _ = _
  unfold dif; split <;> omega
 have e2 := Lib.hid (bor_bits hx hy hz)
 have hs : IntKind.u32.signed = false := rfl
 go_enter Try.func110, Try.ntmps110
 go_wp2
 go_ret2
 have e3 : (((x : Int) - ↑y) % 4294967296 - ↑z) % 4294967296 = ((x : Int) - ↑y - ↑z) % 4294967296 := by omega
 exact ⟨ret_int2 (by rw [e3]; exact e1.out) e2.out, rfl⟩
end Go.Proofs.Ytjbhhccklfddaaa
namespace Go.Proofs.Ytjbhhccklfddaaa
set_option maxRecDepth 20000
open Go.RowKit
structure NSubAt (w wr : World) (a b : List Nat) (n k c g : Nat) (r : List Nat) : Prop where
 len : r.length = k
 own : Own wr w.heap.size (some ⟨g, 0, none⟩) n n (r ++ a.drop k)
 sum : val r + S (fun i => dg b i) k = S (fun i => dg a i) k + 4294967296 ^ k * c
 below : Below w.heap.size w wr
theorem NSubAt.step {w wr : World} {a b : List Nat} {n k c g : Nat} {r : List Nat} (h : NSubAt w wr a b n k c g r) (ha : a.length = n) (hk : k < n) (hg : w.heap.size ≤ g) (hx : dg a k < 4294967296) (hy : dg b k < 4294967296) (hc : c ≤ 1) :
  NSubAt w (wr.drew.setCell ⟨g, k, none⟩ (.int .u32 ((dif (dg a k) (dg b k) c : Nat) : Int))) a b n (k + 1) (bor (dg a k) (dg b k) c) g (r ++ [dif (dg a k) (dg b k) c]) := by
 obtain ⟨h1, h2, _⟩ := dif_bor hx hy hc
 refine ⟨by simp [h.len], ?_, ?_, h.below.drew.setCell hg _⟩
 ·
  have h3 := h.own.drew.set (j := k) h2
  rw [set_split h.len (by omega)] at h3
  exact h3
 ·
  rw [val_snoc, h.len, S, S, Nat.pow_succ]
  exact sub_step h.sum h1
end Go.Proofs.Ytjbhhccklfddaaa
namespace Go.Proofs.Ytjbhhccklfddaaa
set_option maxRecDepth 20000
open Go.RowKit
theorem len_at {x y : Int} {k : Nat} (h0 : 0 ≤ y) (h1 : y ≤ 255) (hs : Lib.bitLen x.toNat = k + Lib.bitLen y.toNat) : (k : Int) + Lib.len8 y = (Lib.bitLen x.toNat : Int) ∧ 0 ≤ Lib.len8 y ∧ Lib.len8 y ≤ 8 := by
 have := Lib.bitLen_le8' y h0 h1
 rw [Lib.len8_of _ h0 h1, hs]
 omega
set_option maxRecDepth 100000 in
set_option maxHeartbeats 1000000 in
theorem Len32_int (x : Int) (w : World) (h0 : 0 ≤ x) (h1 : x ≤ 4294967295) :
  Calls Try.prog 96 #[.int .u32 x] w fun e w' => e = .returned (.int .i64 ((Lib.bitLen x.toNat : Nat) : Int)) ∧ w = w' := by
 by_cases c1 : x < 65536
 ·
  by_cases c2 : x < 256
  ·
   have f1 : x ≤ 255 := by omega
   have L := len_at (x := x) (k := 0) h0 f1 (by omega)
   have l1 := L.2.1
   have l2 := L.2.2
   have E := Lib.hid L.1
   clear L
   go_enter Try.func96, Try.ntmps96
   go_wp2
   go_ret
   exact ⟨ret_int (by have := E.out; omega), rfl⟩
  ·
   have f0 : 0 ≤ x / 256 := by omega
   have f1 : x / 256 ≤ 255 := by omega
   have L := len_at (x := x) (k := 8) f0 f1 (by
    have := Lib.bitLen_shift8 x.toNat (by omega) (by omega)
    rw [this]; congr 2; omega)
   have l1 := L.2.1
   have l2 := L.2.2
   have E := Lib.hid L.1
   clear L
   go_enter Try.func96, Try.ntmps96
   go_wp2
   go_ret
   exact ⟨ret_int (by have := E.out; omega), rfl⟩
 ·
  by_cases c2 : x < 16777216
  ·
   have f0 : 0 ≤ x / 65536 := by omega
   have f1 : x / 65536 ≤ 255 := by omega
   have c3 : x / 65536 < 256 := by omega
   have L := len_at (x := x) (k := 16) f0 f1 (by
    have := Lib.bitLen_shift16 x.toNat (by omega) (by omega)
    rw [this]; congr 2; omega)
   have l1 := L.2.1
   have l2 := L.2.2
   have E := Lib.hid L.1
   clear L c2
   go_enter Try.func96, Try.ntmps96
   go_wp2
   go_ret
   exact ⟨ret_int (by have := E.out; omega), rfl⟩
  ·
   have f0 : 0 ≤ x / 65536 / 256 := by omega
   have f1 : x / 65536 / 256 ≤ 255 := by omega
   have c3 : 256 ≤ x / 65536 := by omega
   have L := len_at (x := x) (k := 24) f0 f1 (by
    have := Lib.bitLen_shift24 x.toNat (by omega) (by omega)
    rw [this]; congr 2; omega)
   have l1 := L.2.1
   have l2 := L.2.2
   have E := Lib.hid L.1
   clear L c2
   go_enter Try.func96, Try.ntmps96
   go_wp2
   go_ret
   exact ⟨ret_int (by have := E.out; omega), rfl⟩
theorem Len32_any (x : Nat) (w : World) (hx : x < 4294967296) :
  Calls Try.prog 96 #[.int .u32 (x : Int)] w fun e w' => e = .returned (.int .i64 ((Lib.bitLen x : Nat) : Int)) ∧ w = w' :=
 Len32_int x w (by omega) (by omega)
end Go.Proofs.Ytjbhhccklfddaaa
namespace Go.Proofs.Ytjbhhccklfddaaa
set_option maxRecDepth 20000
open Go.RowKit
def nbits (x : Nat) : Nat := if (lim x).length = 0 then 0 else 32 * ((lim x).length - 1) + Lib.bitLen (dg (lim x) ((lim x).length - 1))
theorem bitLen_half {y : Nat} (h0 : 0 < y) (hy : y < 4294967296) : Lib.bitLen y = 1 + Lib.bitLen (y / 2) := by
 have e : Lib.bitLenAux 64 (y / 2) = Lib.bitLenAux 63 (y / 2) := Lib.bitLenAux_fuel 63 (y / 2) (by omega) 64 (by omega)
 unfold Lib.bitLen
 rw [e]
 show (if y = 0 then 0 else 1 + Lib.bitLenAux 63 (y / 2)) = _
 rw [if_neg (by omega)]
theorem bitLen_le32 {y : Nat} (hy : y < 4294967296) : Lib.bitLen y ≤ 32 := by
 have e : Lib.bitLenAux 64 y = Lib.bitLenAux 32 y := Lib.bitLenAux_fuel 32 y (by omega) 64 (by omega)
 unfold Lib.bitLen
 rw [e]
 have h : ∀ f x, Lib.bitLenAux f x ≤ f := by
  intro f
  induction f with
  | zero => intro x; simp [Lib.bitLenAux]
  | succ f ih =>
          intro x; simp only [Lib.bitLenAux]; split
          · omega
          · have := ih (x / 2); omega
 exact h 32 y
set_option maxHeartbeats 800000 in
theorem Bits_any (A : Option Addr) (n c : Nat) (a : List Nat) (w : World) (hn : n ≤ 1000000000000) (hcn : n ≤ c) (ha : Row w 0 A n a) :
  Calls Try.prog 85 #[.slice A n c] w fun e w' => e = .returned (.int .i64 (nbits (val a) : Nat)) ∧ w = w' := by
 have hla := ha.lim
 have hna : (lim (val a)).length ≤ n := by have := lim_len_le ha.l32; have := ha.len; omega
 by_cases h0 : (lim (val a)).length = 0
 ·
  have E : Hid (nbits (val a) = 0) := by show _ = _; unfold nbits; rw [if_pos h0]
  have h0' : (lim (val a)).length ≤ 0 := by omega
  have hb : (((lim (val a)).length : Int) == 0) = true := by rw [beq_iff_eq]; omega
  clear h0
  go_enter Try.func85, Try.ntmps85
  go_wp2_with fail
  refine (head_any A n c a _ (by omega) hcn ha).mono ?_
  rintro e w' ⟨rfl, rfl⟩
  go_wp2
  go_ret
  exact ⟨ret_int (by rw [E.out]; rfl), rfl⟩
 ·
  have E : Hid (nbits (val a) = 32 * ((lim (val a)).length - 1) + Lib.bitLen (dg (lim (val a)) ((lim (val a)).length - 1))) := by show _ = _; unfold nbits; rw [if_neg h0]
  have hb : (((lim (val a)).length : Int) == 0) = false := by rw [beq_eq_false_iff_ne]; omega
  have hp : 0 < (lim (val a)).length := by omega
  obtain ⟨b, off, rfl, h1, h2, hc⟩ := hla.mem hp
  have hcb := hc ((lim (val a)).length - 1) (by omega)
  have hx := hla.l32 ((lim (val a)).length - 1)
  have hle := bitLen_le32 hx
  have hL := fun (w : World) => Len32_any (dg (lim (val a)) ((lim (val a)).length - 1)) w hx
  have HL := Lib.hid hL
  clear h0 hc hL
  go_enter Try.func85, Try.ntmps85
  go_wp2_with fail
  refine (head_any _ n c a _ (by omega) hcn ha).mono ?_
  rintro e w' ⟨rfl, rfl⟩
  go_wp2_with fail
  refine (HL.out _).mono ?_
  rintro e w' ⟨rfl, rfl⟩
  go_wp2
  go_ret
  exact ⟨ret_int (by rw [E.out]; omega), rfl⟩
end Go.Proofs.Ytjbhhccklfddaaa
namespace Go.Proofs.Ytjbhhccklfddaaa
set_option maxRecDepth 20000
open Go.RowKit
theorem Own.two {w : World} {x y : Nat} {u v : Int} (hu : u = (x : Int)) (hv : v = (y : Int)) (hx : x < 4294967296) (hy : y < 4294967296) : Own (w.alloc (.cells #[.int .u32 u, .int .u32 v] 66)) w.heap.size (some ⟨w.heap.size, 0, none⟩) 2 2 [x, y] := by
 subst hu hv
 exact ⟨L32.cons hx (L32.cons hy L32.nil), rfl, .inr ⟨w.heap.size, 2, _, rfl, Nat.le_refl _, heap_alloc_new w _, Nat.le_refl _, by unfold maxLen; omega, rfl, rfl⟩⟩
set_option maxHeartbeats 400000 in
theorem rTo_no (A : Option Addr) (n c : Nat) (a : List Nat) (w : World) (hn : n ≤ 1000000000000) (hcn : n ≤ c) (ha : Row w 0 A n a) (h2 : 2 < (lim (val a)).length) :
  Calls Try.prog 79 #[.slice A n c] w fun e w' => e = .returned (.tuple #[.int .u64 0, .bool false]) ∧ Below w.heap.size w w' := by
 have hna : (lim (val a)).length ≤ n := by have := lim_len_le ha.l32; have := ha.len; omega
 go_enter Try.func79, Try.ntmps79
 go_wp2_with fail
 refine (rTrim_any A n c a _ (by omega) hcn ha).mono ?_
 rintro e w0 ⟨X, cx, rfl, ho, hb0⟩
 clear ho
 go_wp2
 go_ret2
 exact ⟨rfl, hb0⟩
theorem S_two (f : Nat → Nat) : S f 1 = f 0 ∧ S f 2 = f 0 + f 1 * 4294967296 := by
 constructor
 · simp [S]
 · simp [S]; omega
theorem val_of_len2 {a : List Nat} (h : (lim (val a)).length ≤ 2) : val a < 18446744073709551616 := by
 have := val_lt (L32_lim (val a))
 rw [val_lim] at this
 have h2 : 4294967296 ^ (lim (val a)).length ≤ 4294967296 ^ 2 := Nat.pow_le_pow_right (by omega) h
 have e : 4294967296 ^ 2 = 18446744073709551616 := rfl
 omega
theorem or_step {x y : Nat} (hx : x < 4294967296) (hy : y < 4294967296) : bits BinOp.or IntKind.u64 (x : Int) ((y : Int) * 4294967296) = ((x + y * 4294967296 : Nat) : Int) := by
 have e : (y : Int) * 4294967296 = ((y * 4294967296 : Nat) : Int) := by omega
 rw [e, u64_or_nat _ _ (by omega) (by omega), Nat.or_comm, nat_join 32 _ x (by show y * 4294967296 % 4294967296 = 0; omega) hx, Nat.add_comm]
theorem or_zero64 {x : Nat} (hx : x < 4294967296) : bits BinOp.or IntKind.u64 0 (x : Int) = ((x : Nat) : Int) := by
 have := u64_or_nat 0 x (by omega) (by omega)
 rw [Nat.zero_or] at this
 exact this
set_option maxHeartbeats 800000 in
theorem To_yes (A : Option Addr) (n c : Nat) (a : List Nat) (w : World) (hn : n ≤ 1000000000000) (hcn : n ≤ c) (ha : Row w 0 A n a) (h2 : (lim (val a)).length ≤ 2) :
  Calls Try.prog 90 #[.slice A n c] w fun e w' => e = .returned (.tuple #[.int .u64 (val a : Nat), .bool true]) ∧ w = w' := by
 have hna : (lim (val a)).length ≤ n := by have := lim_len_le ha.l32; have := ha.len; omega
 have hla := ha.lim
 have hd : decide (2 < ((lim (val a)).length : Int)) = false := by rw [decide_eq_false_iff_not]; omega
 go_enter Try.func90, Try.ntmps90
 go_wp2_with fail
 refine (head_any A n c a _ (by omega) hcn ha).mono ?_
 rintro e w' ⟨rfl, rfl⟩
 go_wp2
 go_loop [4, 5, 6, 14] (fun nv _ _ iv => ∃ k : Nat, k ≤ (lim (val a)).length ∧ iv = .int .i64 k ∧ ∃ v : Int, nv = .int .u64 v ∧ Hid (v = ((S (fun i => dg (lim (val a)) i) k : Nat) : Int))) (fun _ _ _ iv => (lim (val a)).length - (intOf iv).toNat)
 case atStart => exact ⟨0, by omega, rfl, 0, rfl, rfl⟩
 case round =>
  obtain ⟨k, hk, rfl, v, rfl, HV⟩ := hrel
  by_cases h0 : k < (lim (val a)).length
  ·
   obtain ⟨b, off, rfl, h1, h3, hc⟩ := hla.mem (by omega)
   have hcb := hc k h0
   have hx := hla.l32 k
   have hx0 := hla.l32 0
   have hk01 : k = 0 ∨ k = 1 := by omega
   clear hc
   rcases hk01 with rfl | rfl
   ·
    have hv : v = 0 := HV.out
    subst hv
    rw [Nat.add_zero] at hcb
    have HN : Hid (bits BinOp.or IntKind.u64 0 ((dg (lim (val a)) 0 : Nat) : Int) = ((S (fun i => dg (lim (val a)) i) 1 : Nat) : Int)) := by
     show _ = _
     rw [or_zero64 hx0, (S_two _).1]
    clear HV
    go_wp2
    go_round
    case rel => exact ⟨1, by omega, by go_num, _, rfl, HN⟩
    case measure => simp [intOf]; omega
   ·
    have hv : v = ((dg (lim (val a)) 0 : Nat) : Int) := by
     have := HV.out
     rw [(S_two _).1] at this
     exact this
    subst hv
    have HN : Hid (bits BinOp.or IntKind.u64 ((dg (lim (val a)) 0 : Nat) : Int) (((dg (lim (val a)) 1 : Nat) : Int) * 4294967296) = ((S (fun i => dg (lim (val a)) i) 2 : Nat) : Int)) := by
     show _ = _
     rw [or_step hx0 hx, (S_two _).2]
    clear HV
    go_wp2
    go_round
    case rel => exact ⟨2, by omega, by go_num, _, rfl, HN⟩
    case measure => simp [intOf]; omega
  ·
   have hE : Hid (v = ((val a : Nat) : Int)) := by
    show _ = _
    rw [HV.out, S_more (lim (val a)) k (by omega), val_lim]
   clear HV
   go_wp2
   go_ret2
   exact ⟨by rw [hE.out]; rfl, rfl⟩
theorem val_drop_step (l : List Nat) (k : Nat) (hk : k < l.length) : val (l.drop k) = dg l k + 4294967296 * val (l.drop (k + 1)) := by
 rw [List.drop_eq_getElem_cons hk, val]
 simp [dg_eq, hk]
set_option maxHeartbeats 800000 in
theorem rTo_yes (A : Option Addr) (n c : Nat) (a : List Nat) (w : World) (hn : n ≤ 1000000000000) (hcn : n ≤ c) (ha : Row w 0 A n a) (h2 : (lim (val a)).length ≤ 2) :
  Calls Try.prog 79 #[.slice A n c] w fun e w' => e = .returned (.tuple #[.int .u64 (val a : Nat), .bool true]) ∧ Below w.heap.size w w' := by
 have hna : (lim (val a)).length ≤ n := by have := lim_len_le ha.l32; have := ha.len; omega
 have hd : decide (2 < ((lim (val a)).length : Int)) = false := by rw [decide_eq_false_iff_not]; omega
 go_enter Try.func79, Try.ntmps79
 go_wp2_with fail
 refine (rTrim_any A n c a _ (by omega) hcn ha).mono ?_
 rintro e w0 ⟨X, cx, rfl, ho, hb0⟩
 have hla := ho.row
 clear ho
 go_wp2
 go_loop [5, 6] (fun nv iv => ∃ k : Nat, k ≤ (lim (val a)).length ∧ iv = .int .i64 ((k : Int) - 1) ∧ ∃ v : Nat, nv = .int .u64 v ∧ Hid (v = val ((lim (val a)).drop k))) (fun _ iv => (intOf iv + 1).toNat)
 case atStart => exact ⟨_, Nat.le_refl _, rfl, 0, rfl, by show _ = _; simp [val]⟩
 case round =>
  obtain ⟨k, hk, rfl, v, rfl, HV⟩ := hrel
  by_cases h0 : k = 0
  ·
   subst h0
   have hE : Hid (v = val a) := by
    show _ = _
    rw [HV.out, List.drop_zero, val_lim]
   clear HV
   go_wp2
   go_ret2
   exact ⟨by rw [hE.out]; rfl, hb0⟩
  ·
   obtain ⟨k, rfl⟩ : ∃ j, k = j + 1 := ⟨k - 1, by omega⟩
   obtain ⟨b, off, rfl, h1, h3, hc⟩ := hla.mem (by omega)
   have hcb := hc k (by omega)
   have hx := hla.l32 k
   have hk1 : k < (lim (val a)).length := by omega
   have he1 : ((k + 1 : Nat) : Int) - 1 = (k : Int) := by omega
   simp only [he1]
   have hv : v < 4294967296 := by
    rw [HV.out]
    have h4 := val_lt ((L32_lim (val a)).drop (k + 1))
    have h5 : 4294967296 ^ ((lim (val a)).drop (k + 1)).length ≤ 4294967296 ^ 1 := Nat.pow_le_pow_right (by omega) (by simp; omega)
    omega
   have HN : Hid (∃ u : Nat, bits BinOp.or IntKind.u64 ((v : Int) * 4294967296) ((dg (lim (val a)) k : Nat) : Int) = (u : Int) ∧ u = val ((lim (val a)).drop k)) := by
    refine ⟨dg (lim (val a)) k + 4294967296 * v, ?_, ?_⟩
    ·
     have e : (v : Int) * 4294967296 = ((v * 4294967296 : Nat) : Int) := by omega
     rw [e, u64_or_nat _ _ (by omega) (by omega), nat_join 32 _ _ (by show v * 4294967296 % 4294967296 = 0; omega) hx]
     omega
    · rw [val_drop_step _ _ hk1, ← HV.out]
   clear HV hc he1
   obtain ⟨u, hu1, hu2⟩ := HN.out
   have HU1 := Lib.hid hu1
   have HU2 := Lib.hid hu2
   clear hu1 hu2 HN
   go_wp2
   go_round
   case rel => exact ⟨k, by omega, rfl, u, by rw [← HU1.out], HU2⟩
   case measure => simp [intOf]
set_option maxHeartbeats 400000 in
theorem Of_any (x : Nat) (w : World) (hx : x < 18446744073709551616) :
  Calls Try.prog 91 #[.int .u64 (x : Int)] w fun e w' => ∃ A2 c2, e = .returned (.slice A2 (lim x).length c2) ∧ Own w' w.heap.size A2 c2 (lim x).length (lim x) ∧ Below w.heap.size w w' := by
 have e1 : Hid (val [x % 4294967296, x / 4294967296] = x) := by show _ = _; simp [val]; omega
 have hlow := Row.two (w := w) (x := x % 4294967296) (y := x / 4294967296) (u := (x : Int) % 4294967296) (v := (x : Int) / 4294967296) (lo := 0) (by omega) (by omega) (by omega) (by omega) (Nat.zero_le _)
 have ho := Own.two (w := w) (x := x % 4294967296) (y := x / 4294967296) (u := (x : Int) % 4294967296) (v := (x : Int) / 4294967296) (by omega) (by omega) (by omega) (by omega)
 have HO := Lib.hid ho.lim
 clear ho
 go_enter Try.func91, Try.ntmps91
 go_wp2_with fail
 refine (head_any _ 2 2 [x % 4294967296, x / 4294967296] _ (by omega) (Nat.le_refl _) hlow).mono ?_
 rintro e w' ⟨rfl, rfl⟩
 go_wp2
 go_ret
 have HO2 := HO.out
 rw [e1.out] at HO2
 exact ⟨_, _, by rw [e1.out]; rfl, HO2, below_alloc _ _⟩
set_option maxHeartbeats 400000 in
theorem rOf_any (x : Nat) (w : World) (hx : x < 18446744073709551616) :
  Calls Try.prog 39 #[.int .u64 (x : Int)] w fun e w' => ∃ A2 c2, e = .returned (.slice A2 (lim x).length c2) ∧ Own w' w.heap.size A2 c2 (lim x).length (lim x) ∧ Below w.heap.size w w' := by
 have e1 : Hid (val [x % 4294967296, x / 4294967296] = x) := by show _ = _; simp [val]; omega
 have hlow := Row.two (w := w) (x := x % 4294967296) (y := x / 4294967296) (u := (x : Int) % 4294967296) (v := (x : Int) / 4294967296) (lo := 0) (by omega) (by omega) (by omega) (by omega) (Nat.zero_le _)
 go_enter Try.func39, Try.ntmps39
 go_wp2_with fail
 refine (rTrim_any _ 2 2 [x % 4294967296, x / 4294967296] _ (by omega) (Nat.le_refl _) hlow).mono ?_
 rintro e w3 ⟨A3, c3, rfl, ho3, hb3⟩
 have HO := Lib.hid ho3
 have HB := Lib.hid ((below_alloc w _).trans (hb3.mono (by simp)))
 clear ho3 hb3
 go_wp2
 go_ret
 have HO2 := HO.out
 rw [e1.out] at HO2
 exact ⟨A3, c3, by rw [e1.out]; rfl, HO2.lower (by simp), HB.out⟩
end Go.Proofs.Ytjbhhccklfddaaa
namespace Go.Proofs.Ytjbhhccklfddaaa
set_option maxRecDepth 20000
theorem digit_le {R D2 P3 v' p' d v p : Nat} (hv : v = D2 * R + v') (hp : p = P3 * R + p') (hv' : v' < R) (hd : d * D2 ≤ P3) (hdD : d ≤ D2) : d * v ≤ p + v := by
 have h1 : d * D2 * R ≤ P3 * R := Nat.mul_le_mul_right _ hd
 have h2 : d * v' ≤ D2 * R := Nat.mul_le_mul hdD (Nat.le_of_lt hv')
 have h3 : d * v = d * D2 * R + d * v' := by rw [hv, Nat.mul_add, Nat.mul_assoc]
 omega
theorem digit_ge {R D2 P3 v' p' d v p : Nat} (hv : v = D2 * R + v') (hp : p = P3 * R + p') (hp' : p' < R) (hd : P3 < (d + 1) * D2) : p < (d + 1) * v := by
 have h1 : (P3 + 1) * R ≤ (d + 1) * D2 * R := Nat.mul_le_mul_right _ hd
 have h3 : (d + 1) * v = (d + 1) * D2 * R + (d + 1) * v' := by rw [hv, Nat.mul_add, Nat.mul_assoc]
 rw [Nat.add_mul, Nat.one_mul] at h1
 omega
theorem test_iff {first second top low digit left : Nat} (ht : top = digit * first + left) : (left * 4294967296 + low < digit * second) ↔ top * 4294967296 + low < digit * (first * 4294967296 + second) := by
 rw [ht, Nat.add_mul, Nat.mul_add, Nat.mul_assoc]
 omega
theorem val_high2 {v : List Nat} {m : Nat} (hm : 2 ≤ m) (hv : v.length = m) : ∃ v', val v = (dg v (m - 1) * 4294967296 + dg v (m - 2)) * 4294967296 ^ (m - 2) + v' ∧ (L32 v → v' < 4294967296 ^ (m - 2)) := by
 obtain ⟨k, rfl⟩ : ∃ k, m = k + 2 := ⟨m - 2, by omega⟩
 refine ⟨S (fun i => dg v i) k, ?_, fun h => S_lt fun i _ => h i⟩
 have h : val v = S (fun i => dg v i) (k + 2) := by rw [← hv]; exact (S_val v).symm
 rw [h, S, S, Nat.pow_succ]
 have e1 : k + 2 - 1 = k + 1 := by omega
 have e2 : k + 2 - 2 = k := by omega
 rw [e1, e2, Nat.add_mul]
 have e3 : dg v (k + 1) * 4294967296 * 4294967296 ^ k = 4294967296 ^ k * 4294967296 * dg v (k + 1) := by
  rw [Nat.mul_comm (dg v (k + 1)), Nat.mul_right_comm, Nat.mul_comm 4294967296]
 rw [e3, Nat.mul_comm (dg v k)]
 omega
theorem val_high3 {p : List Nat} {m : Nat} (hm : 2 ≤ m) (hp : p.length = m + 1) : ∃ p', val p = ((dg p m * 4294967296 + dg p (m - 1)) * 4294967296 + dg p (m - 2)) * 4294967296 ^ (m - 2) + p' ∧ (L32 p → p' < 4294967296 ^ (m - 2)) := by
 obtain ⟨k, rfl⟩ : ∃ k, m = k + 2 := ⟨m - 2, by omega⟩
 refine ⟨S (fun i => dg p i) k, ?_, fun h => S_lt fun i _ => h i⟩
 have h : val p = S (fun i => dg p i) (k + 2 + 1) := by rw [← hp]; exact (S_val p).symm
 rw [h, S, S, S]
 simp only [Nat.pow_succ]
 have e1 : k + 2 - 1 = k + 1 := by omega
 have e2 : k + 2 - 2 = k := by omega
 rw [e1, e2, Nat.add_mul, Nat.add_mul, Nat.add_mul]
 generalize 4294967296 ^ k = R
 generalize dg p (k + 2) = x
 generalize dg p (k + 1) = y
 generalize dg p k = z
 have e3 : x * 4294967296 * 4294967296 * R = R * 4294967296 * 4294967296 * x := by grind
 have e4 : y * 4294967296 * R = R * 4294967296 * y := by grind
 rw [e3, e4, Nat.mul_comm z]
 omega
theorem top_num {R T F G Q v' p' v p : Nat} (e1 : v = (F * 4294967296 + G) * R + v') (h1 : v' < R) (h2 : G < 4294967296) (e2 : p = (T * 4294967296 + Q) * R + p') (hlt : p < v * 4294967296) : T < (F + 1) * 4294967296 := by
 rcases Nat.lt_or_ge T ((F + 1) * 4294967296) with h | h
 · exact h
 ·
  exfalso
  obtain ⟨W, hW⟩ : ∃ W, W = (F + 1) * 4294967296 := ⟨_, rfl⟩
  obtain ⟨V, hV⟩ : ∃ V, V = F * 4294967296 + G := ⟨_, rfl⟩
  obtain ⟨X, hX⟩ : ∃ X, X = T * 4294967296 + Q := ⟨_, rfl⟩
  obtain ⟨Z, hZ⟩ : ∃ Z, Z = W * 4294967296 := ⟨_, rfl⟩
  rw [← hV] at e1
  rw [← hX] at e2
  have hU : V + 1 ≤ W := by omega
  have hT : Z ≤ X := by omega
  have h3 := Nat.mul_le_mul_right R hT
  have h4 := Nat.mul_le_mul_right R hU
  rw [Nat.add_one_mul] at h4
  have h7 : Z * R = W * R * 4294967296 := by rw [hZ]; exact Nat.mul_right_comm _ _ _
  omega
theorem top_lt {v p : List Nat} {m : Nat} (hm : 2 ≤ m) (hv : v.length = m) (hp : p.length = m + 1) (lv : L32 v) (hlt : val p < val v * 4294967296) : (dg p m * 4294967296 + dg p (m - 1)) < (dg v (m - 1) + 1) * 4294967296 := by
 obtain ⟨v', e1, h1⟩ := val_high2 hm hv
 obtain ⟨p', e2, _⟩ := val_high3 hm hp
 exact top_num e1 (h1 lv) (lv _) e2 hlt
theorem guess_ok {v p : List Nat} {m d : Nat} (hm : 2 ≤ m) (hv : v.length = m) (hp : p.length = m + 1) (lv : L32 v) (hn : 2147483648 ≤ dg v (m - 1))
  (hd : d < 4294967296) (hle : d * (dg v (m - 1) * 4294967296 + dg v (m - 2)) ≤ (dg p m * 4294967296 + dg p (m - 1)) * 4294967296 + dg p (m - 2)) : d * val v ≤ val p + val v := by
 obtain ⟨v', e1, h1⟩ := val_high2 hm hv
 obtain ⟨p', e2, _⟩ := val_high3 hm hp
 exact digit_le e1 e2 (h1 lv) hle (by omega)
theorem guess_up {v p : List Nat} {m d : Nat} (hm : 2 ≤ m) (hv : v.length = m) (hp : p.length = m + 1) (lp : L32 p)
  (h : (dg p m * 4294967296 + dg p (m - 1)) * 4294967296 + dg p (m - 2) < (d + 1) * (dg v (m - 1) * 4294967296 + dg v (m - 2))) : val p < (d + 1) * val v := by
 obtain ⟨v', e1, _⟩ := val_high2 hm hv
 obtain ⟨p', e2, h2⟩ := val_high3 hm hp
 exact digit_ge e1 e2 (h2 lp) h
theorem take_ok {p v d s : Nat} (hs : s + d * v = p) (hup : p < (d + 1) * v) : s < v := by
 rw [Nat.add_mul, Nat.one_mul] at hup
 omega
theorem back_ok {p v d s s2 c P : Nat} (hs : s + d * v = p + P) (hsP : s < P) (hc : s2 + P * c = s + v) (hs2 : s2 < P) (hle : d * v ≤ p + v) (hc1 : c ≤ 1) : 1 ≤ d ∧ s2 + (d - 1) * v = p ∧ s2 < v := by
 have h1 : 1 ≤ d := by
  rcases Nat.eq_zero_or_pos d with h0 | h0
  · subst h0; omega
  · exact h0
 obtain ⟨e, rfl⟩ : ∃ e, d = e + 1 := ⟨d - 1, by omega⟩
 rw [Nat.add_mul, Nat.one_mul] at hs hle
 have : c = 0 ∨ c = 1 := by omega
 rcases this with rfl | rfl
 · exfalso; omega
 ·
  refine ⟨h1, ?_, ?_⟩
  · simp; omega
  · omega
theorem quot_le {T F : Nat} (h : T < (F + 1) * 4294967296) (hn : 2147483648 ≤ F) : T / F ≤ 4294967297 := by
 have h1 : T / F < 4294967298 := by
  rw [Nat.div_lt_iff_lt_mul (by omega)]
  omega
 omega
theorem start_eq (T F : Nat) : T = T / F * F + T % F := by
 have := Nat.div_add_mod T F
 rw [Nat.mul_comm]; omega
theorem start_up {T F G Q : Nat} (hF : 1 ≤ F) (hQ : Q < 4294967296) : T * 4294967296 + Q < (T / F + 1) * (F * 4294967296 + G) := by
 obtain ⟨W, hW⟩ : ∃ W, W = (T / F + 1) * F := ⟨_, rfl⟩
 obtain ⟨Z, hZ⟩ : ∃ Z, Z = (T / F + 1) * G := ⟨_, rfl⟩
 have h1 : T + 1 ≤ W := by
  have h2 := start_eq T F
  have h3 : T % F < F := Nat.mod_lt _ (by omega)
  rw [hW, Nat.add_mul, Nat.one_mul]
  omega
 have e : (T / F + 1) * (F * 4294967296 + G) = W * 4294967296 + Z := by rw [hW, hZ, Nat.mul_add, Nat.mul_assoc]
 rw [e]
 omega
theorem dec_eq {T F D L : Nat} (ht : T = D * F + L) (hD : 1 ≤ D) : T = (D - 1) * F + (L + F) := by
 obtain ⟨E, rfl⟩ : ∃ E, D = E + 1 := ⟨D - 1, by omega⟩
 rw [Nat.add_mul, Nat.one_mul] at ht
 simp
 omega
theorem brk_ok {T F G Q D L : Nat} (ht : T = D * F + L) (hL : 4294967296 ≤ L) (hT : T < (F + 1) * 4294967296) (hG : G < 4294967296) : D < 4294967296 ∧ D * (F * 4294967296 + G) ≤ T * 4294967296 + Q := by
 have h1 : D < 4294967296 := by
  rcases Nat.lt_or_ge D 4294967296 with h | h
  · exact h
  ·
   exfalso
   have h2 : 4294967296 * F ≤ D * F := Nat.mul_le_mul_right F h
   omega
 refine ⟨h1, ?_⟩
 have h3 : D * G ≤ 4294967295 * 4294967295 := Nat.mul_le_mul (by omega) (by omega)
 rcases Nat.lt_or_ge (T * 4294967296 + Q) (D * (F * 4294967296 + G)) with h | h
 ·
  have := (test_iff ht (low := Q) (second := G)).2 h
  omega
 · exact h
theorem exit_ok {T F G Q D L : Nat} (ht : T = D * F + L) (h : ¬ L * 4294967296 + Q < D * G) : D * (F * 4294967296 + G) ≤ T * 4294967296 + Q := by
 rcases Nat.lt_or_ge (T * 4294967296 + Q) (D * (F * 4294967296 + G)) with h1 | h1
 · exact absurd ((test_iff ht).2 h1) h
 · exact h1
theorem mul_max {D G : Nat} (hD : D < 4294967296) (hG : G < 4294967296) : D * G ≤ 18446744065119617025 :=
 Nat.le_trans (Nat.mul_le_mul (Nat.le_sub_one_of_lt hD) (Nat.le_sub_one_of_lt hG)) (by decide)
end Go.Proofs.Ytjbhhccklfddaaa
namespace Go.Proofs.Ytjbhhccklfddaaa
set_option maxRecDepth 20000
open Go.RowKit
theorem or_step2 {x y : Nat} (hx : x < 4294967296) (hy : y < 4294967296) : bits BinOp.or IntKind.u64 ((y : Int) * 4294967296) (x : Int) = ((y * 4294967296 + x : Nat) : Int) := by
 have e : (y : Int) * 4294967296 = ((y * 4294967296 : Nat) : Int) := by omega
 rw [e, u64_or_nat _ _ (by omega) (by omega), nat_join 32 _ x (by show y * 4294967296 % 4294967296 = 0; omega) hx]
structure GuessAt (p v : List Nat) (m D L : Nat) : Prop where
 top : dg p m * 4294967296 + dg p (m - 1) = D * dg v (m - 1) + L
 up : val p < (D + 1) * val v
set_option maxHeartbeats 1600000 in
theorem guess_any (X Y : Option Addr) (m cx cy : Nat) (p v : List Nat) (w : World) (hm : 2 ≤ m) (hm2 : m ≤ 1000000000000) (hp : Row w 0 X (m + 1) p) (hv : Row w 0 Y m v) (hn : 2147483648 ≤ dg v (m - 1)) (hlt : val p < val v * 4294967296) :
  Calls Try.prog 106 #[.slice X (m + 1 : Nat) cx, .slice Y m cy] w fun e w' => ∃ d : Nat, e = .returned (.int .u32 (d : Int)) ∧ d < 4294967296 ∧ val p < (d + 1) * val v ∧ d * val v ≤ val p + val v ∧ ∃ q, w' = w.drewN q := by
 obtain ⟨b1, off1, rfl, h1, h2, hc1⟩ := hp.mem (by omega)
 obtain ⟨b2, off2, rfl, h3, h4, hc2⟩ := hv.mem (by omega)
 have c1 := hc1 m (by omega)
 have c2 := hc1 (m - 1) (by omega)
 have c3 := hc1 (m - 2) (by omega)
 have c4 := hc2 (m - 1) (by omega)
 have c5 := hc2 (m - 2) (by omega)
 have l1 := hp.l32 m
 have l2 := hp.l32 (m - 1)
 have l3 := hp.l32 (m - 2)
 have l4 := hv.l32 (m - 1)
 have l5 := hv.l32 (m - 2)
 have hT := top_lt hm hv.len hp.len hv.l32 hlt
 have K1 : Hid (∀ d, d < 4294967296 → d * (dg v (m - 1) * 4294967296 + dg v (m - 2)) ≤ (dg p m * 4294967296 + dg p (m - 1)) * 4294967296 + dg p (m - 2) → d * val v ≤ val p + val v) :=
  fun d hd hle => guess_ok hm hv.len hp.len hv.l32 hn hd hle
 have K2 : Hid (∀ d, (dg p m * 4294967296 + dg p (m - 1)) * 4294967296 + dg p (m - 2) < (d + 1) * (dg v (m - 1) * 4294967296 + dg v (m - 2)) → val p < (d + 1) * val v) :=
  fun d h => guess_up hm hv.len hp.len hp.l32 h
 have HLT := Lib.hid hlt
 have hor1 := or_step2 l2 l1
 clear hp hv hc1 hc2 hlt
 have hF1 : 1 ≤ dg v (m - 1) := by omega
 have hFn : ¬ dg v (m - 1) = 0 := by omega
 have hD1 := quot_le hT hn
 have HST : Hid (GuessAt p v m ((dg p m * 4294967296 + dg p (m - 1)) / dg v (m - 1)) ((dg p m * 4294967296 + dg p (m - 1)) % dg v (m - 1))) :=
  ⟨start_eq _ _, K2.out _ (start_up hF1 l3)⟩
 have hL1 : (dg p m * 4294967296 + dg p (m - 1)) % dg v (m - 1) < 4294967296 := by
  have : (dg p m * 4294967296 + dg p (m - 1)) % dg v (m - 1) < dg v (m - 1) := Nat.mod_lt _ (by omega)
  omega
 go_enter Try.func106, Try.ntmps106
 go_wp2
 go_quiet (fail)
 go_wp2
 go_quiet (fail)
 go_wp2
 go_quiet (fail)
 go_wp2
 go_loopw [9, 10] (fun dv lv wr => ∃ (D L q : Nat), D ≤ 4294967297 ∧ L < 4294967296 ∧ dv = .int .u64 D ∧ lv = .int .u64 L ∧ wr = w.drewN q ∧ Hid (GuessAt p v m D L)) (fun dv _ _ => (intOf dv).toNat)
 case atStart => exact ⟨_, _, _, hD1, hL1, by go_num, by go_num, by simp only [World.drewN_drewN]; rfl, HST⟩
 case round =>
  obtain ⟨D, L, q, hD, hL, rfl, rfl, rfl, HA⟩ := hrel
  have hor := or_step2 l3 hL
  clear HST hor1 hD1 hL1 c1 c2 c4 c5 hn
  have hLv : L + dg v (m - 1) < 8589934592 := by omega
  by_cases hbig : ¬ D < 4294967296
  ·
   have HN : Hid (GuessAt p v m (D - 1) (L + dg v (m - 1))) := by
    refine ⟨dec_eq HA.out.top (by omega), ?_⟩
    have h1 : val v * 4294967296 ≤ D * val v := by rw [Nat.mul_comm]; exact Nat.mul_le_mul_right _ (by omega)
    have h2 := HLT.out
    rw [show D - 1 + 1 = D by omega]
    omega
   have HB := Lib.hid (fun h : 4294967296 ≤ L + dg v (m - 1) => brk_ok (Q := dg p (m - 2)) HN.out.top h hT l5)
   have hD2 : D = 4294967296 ∨ D = 4294967297 := by omega
   clear HA hbig hD hT
   rcases hD2 with rfl | rfl
   all_goals
    by_cases hbrk : L + dg v (m - 1) < 4294967296
    ·
     go_wp2
     go_roundw
     case rel => exact ⟨_, L + dg v (m - 1), q, by omega, hbrk, by go_num, by go_num, rfl, HN⟩
     case measure => simp [intOf]
    ·
     have HB2 := Lib.hid (HB.out (by omega))
     have hbi : (4294967295 : Int) < (L : Int) + ((dg v (m - 1) : Nat) : Int) := by omega
     clear hbrk HB
     go_wp2
     go_ret
     obtain ⟨e1, e2⟩ := HB2.out
     first
      | (exfalso; omega)
      | exact ⟨_, ret_int rfl, e1, HN.out.up, K1.out _ e1 e2, q, rfl⟩
  ·
   have hsm : D < 4294967296 := by omega
   have hp := mul_max hsm l5
   clear hbig hD
   by_cases htest : L * 4294967296 + dg p (m - 2) < D * dg v (m - 2)
   ·
    have hD0 : 1 ≤ D := by
     rcases Nat.eq_zero_or_pos D with h0 | h0
     · subst h0; simp at htest
     · exact h0
    have HN : Hid (GuessAt p v m (D - 1) (L + dg v (m - 1))) := by
     refine ⟨dec_eq HA.out.top hD0, K2.out _ ?_⟩
     rw [show D - 1 + 1 = D by omega]
     exact (test_iff HA.out.top).1 htest
    have HB := Lib.hid (fun h : 4294967296 ≤ L + dg v (m - 1) => brk_ok (Q := dg p (m - 2)) HN.out.top h hT l5)
    have hti : ((L : Int) * 4294967296 + ((dg p (m - 2) : Nat) : Int)) < (D : Int) * ((dg v (m - 2) : Nat) : Int) := by omega
    have hd1 : ((D - 1 : Nat) : Int) = (D : Int) - 1 := by omega
    clear HA hT
    by_cases hbrk : L + dg v (m - 1) < 4294967296
    ·
     go_wp2
     go_roundw
     case rel => exact ⟨D - 1, L + dg v (m - 1), q, by omega, hbrk, by rw [hd1], by go_num, rfl, HN⟩
     case measure => simp [intOf]; omega
    ·
     have HB2 := Lib.hid (HB.out (by omega))
     have hbi : (4294967295 : Int) < (L : Int) + ((dg v (m - 1) : Nat) : Int) := by omega
     clear hbrk HB
     go_wp2
     go_ret
     obtain ⟨e1, e2⟩ := HB2.out
     exact ⟨D - 1, ret_int (by omega), e1, HN.out.up, K1.out _ e1 e2, q, rfl⟩
   ·
    have HK := Lib.hid (K1.out D hsm (exit_ok HA.out.top htest))
    have hti : ¬ ((L : Int) * 4294967296 + ((dg p (m - 2) : Nat) : Int)) < (D : Int) * ((dg v (m - 2) : Nat) : Int) := by omega
    have HU := Lib.hid HA.out.up
    clear HA hT
    go_wp2
    go_ret
    exact ⟨D, ret_int (by omega), hsm, HU.out, HK.out, q, rfl⟩
end Go.Proofs.Ytjbhhccklfddaaa
namespace Go.Proofs.Ytjbhhccklfddaaa
set_option maxRecDepth 20000
open Go.RowKit
theorem set_mid {pre mid post : List Nat} {i k x : Nat} (hi : pre.length = i) (hk : k < mid.length) : (pre ++ mid ++ post).set (i + k) x = pre ++ mid.set k x ++ post := by
 subst hi
 rw [List.append_assoc, List.set_append_right _ _ (by omega), Nat.add_sub_cancel_left, List.set_append_left _ _ hk, List.append_assoc]
theorem dg_mid {pre mid post : List Nat} {i k : Nat} (hi : pre.length = i) (hk : k < mid.length) : dg (pre ++ mid ++ post) (i + k) = dg mid k := by
 subst hi
 rw [List.append_assoc, dg_eq, dg_eq, List.getElem?_append_right (by omega), Nat.add_sub_cancel_left, List.getElem?_append_left hk]
theorem grown_set {ws wr : World} {g j : Nat} {u : Value} (h : ws.grownBy wr (some g)) : ws.grownBy (wr.setCell ⟨g, j, none⟩ u) (some g) :=
 ⟨h.os, h.tape, h.output, by simpa using h.size, fun k hk hne => (heap_setCell_other wr ⟨g, j, none⟩ k u (fun e => hne (by rw [e]))).trans (h.block k hk hne)⟩
theorem grown_drew {ws wr : World} {row : Option Nat} (h : ws.grownBy wr row) : ws.grownBy wr.drew row := ⟨h.os, h.tape, h.output, h.size, h.block⟩
theorem less_step {P V Sv Ss c b f u s x b' tl th : Nat} (h : V + f * Sv = Ss + P * (c + b)) (ht : tl + 4294967296 * th = c + u * f) (hx : x + tl + b = s + 4294967296 * b') :
  (V + P * x) + f * (Sv + P * u) = (Ss + P * s) + (P * 4294967296) * (th + b') := by
 have e1 := congrArg (P * ·) ht
 have e2 := congrArg (P * ·) hx
 simp only [Nat.mul_add] at e1 e2 h ⊢
 rw [← Nat.mul_assoc P 4294967296] at e1 e2
 have e3 : f * (P * u) = P * (u * f) := by rw [Nat.mul_left_comm, Nat.mul_comm f u]
 omega
structure LessAt (ws w0 wr : World) (g C N i : Nat) (pre s v post : List Nat) (f k c b : Nat) (r : List Nat) : Prop where
 len : r.length = k
 own : Own wr w0.heap.size (some ⟨g, 0, none⟩) C N (pre ++ (r ++ s.drop k) ++ post)
 sum : val r + f * S (fun j => dg v j) k = S (fun j => dg s j) k + 4294967296 ^ k * (c + b)
 below : Below w0.heap.size w0 wr
 gr : ws.grownBy wr (some g)
theorem LessAt.step {ws w0 wr : World} {g C N i : Nat} {pre s v post : List Nat} {f k c b : Nat} {r : List Nat} (h : LessAt ws w0 wr g C N i pre s v post f k c b r) (hi : pre.length = i) (hk : k < s.length) (hg : w0.heap.size ≤ g) {tl th u : Nat}
  (ht : tl + 4294967296 * th = c + u * f) (hu : dg v k = u) (htl : tl < 4294967296) (hs : dg s k < 4294967296) (hb : b ≤ 1) :
  LessAt ws w0 (wr.setCell ⟨g, i + k, none⟩ (.int .u32 ((dif (dg s k) tl b : Nat) : Int))) g C N i pre s v post f (k + 1) th (bor (dg s k) tl b) (r ++ [dif (dg s k) tl b]) := by
 obtain ⟨h1, h2, _⟩ := dif_bor hs htl hb
 have hl : (r ++ s.drop k).length = s.length := by simp [h.len]; omega
 refine ⟨by simp [h.len], ?_, ?_, h.below.setCell hg _, grown_set h.gr⟩
 ·
  have h3 := h.own.set (j := i + k) h2
  rw [set_mid hi (by omega), set_split h.len hk] at h3
  exact h3
 ·
  rw [val_snoc, h.len, S, S, Nat.pow_succ, hu]
  exact less_step h.sum ht h1
set_option maxHeartbeats 1600000 in
theorem lessTimes_any (w0 : World) (g i m C N c cy f : Nat) (Y : Option Addr) (pre s v post : List Nat) (w : World) (hg : w0.heap.size ≤ g) (hm : m ≤ 1000000000000) (hN : N ≤ 10000000000000) (hi : pre.length = i) (hs : s.length = m + 1) (hf : f < 4294967296)
  (hv : Row w0 0 Y m v) (hbel : Below w0.heap.size w0 w) (ho : Own w w0.heap.size (some ⟨g, 0, none⟩) C N (pre ++ s ++ post)) :
  Calls Try.prog 107 #[.slice (some ⟨g, i, none⟩) (m + 1 : Nat) c, .slice Y m cy, .int .u32 (f : Int)] w fun e w' => ∃ (bw : Bool) (s' : List Nat), e = .returned (.bool bw) ∧ s'.length = m + 1 ∧ Own w' w0.heap.size (some ⟨g, 0, none⟩) C N (pre ++ s' ++ post) ∧ (Below w0.heap.size w0 w' ∧ w.grownBy w' (some g)) ∧ val s' + f * val v = val s + 4294967296 ^ (m + 1) * bw.toNat := by
 have hiN : i + m + 1 ≤ N := by have := ho.len; simp at this; omega
 have HST : Hid (LessAt w w0 w g C N i pre s v post f 0 0 0 []) := ⟨rfl, by simpa using ho, by simp [val, S], hbel, World.grownBy.refl _ _⟩
 have ls : L32 s := by
  intro j
  by_cases hj : j < s.length
  ·
   have := ho.l32 (i + j)
   rwa [dg_mid hi hj] at this
  · rw [dg_out (by omega)]; omega
 clear ho hbel
 have HS := Lib.hid hs
 have HI := Lib.hid hi
 clear hs hi
 go_enter Try.func107, Try.ntmps107
 go_wp2
 go_loopw [7, 8, 9, 10, 14] (fun cv bv _ _ iv wr => ∃ (k cr b : Nat) (r : List Nat), k ≤ m ∧ cr < 4294967296 ∧ b ≤ 1 ∧ iv = .int .i64 k ∧ cv = .int .u64 cr ∧ bv = .int .u32 b ∧ Hid (LessAt w w0 wr g C N i pre s v post f k cr b r)) (fun _ _ _ _ iv _ => m - (intOf iv).toNat)
 case atStart => exact ⟨0, 0, 0, [], by omega, by omega, by omega, rfl, rfl, rfl, HST⟩
 case round =>
  obtain ⟨k, cr, b, r, hk, hcr, hb, rfl, rfl, rfl, HA⟩ := hrel
  have hks : k < s.length := by have := HS.out; omega
  have hl : k < (r ++ s.drop k).length := by have := HA.out.len; simp; omega
  obtain ⟨b2, off2, hA, h3, h4, hc2⟩ := HA.out.own.row.mem (by omega)
  injection hA with hA
  injection hA with e1 e2
  subst e1 e2
  have hcs := hc2 (i + k) (by omega)
  rw [Nat.zero_add, dg_mid HI.out hl, dg_split HA.out.len] at hcs
  have hfs := HA.out.own.own.frozenAt (i + k)
  have hsk := ls k
  clear hc2 HST hl hks
  by_cases h0 : k < m
  ·
   have hb1 := hv.below HA.out.below
   have hu := hv.l32 k
   obtain ⟨b', off, rfl, h1, h2, hc⟩ := hb1.mem (by omega)
   have hcb := hc k h0
   have hp := mul_max hu hf
   have htl : (cr + dg v k * f) % 4294967296 < 4294967296 := Nat.mod_lt _ (by omega)
   have STEP := Lib.hid (HA.out.step HI.out (by have := HS.out; omega) hg (tl := (cr + dg v k * f) % 4294967296) (th := (cr + dg v k * f) / 4294967296) (Nat.mod_add_div _ _) rfl htl hsk hb)
   have hb2 : bor (dg s k) ((cr + dg v k * f) % 4294967296) b ≤ 1 := (dif_bor hsk htl hb).2.2
   have hcr2 : (cr + dg v k * f) / 4294967296 < 4294967296 := by omega
   have HSB := Lib.hid (fun (w : World) => Sub32_any (dg s k) ((cr + dg v k * f) % 4294967296) b w hsk htl hb)
   clear hc HA hb1 hv
   go_wp2_with fail
   refine ((HSB.out _)).mono ?_
   rintro e w' ⟨rfl, rfl⟩
   go_wp2
   go_roundw
   case rel => exact ⟨k + 1, (cr + dg v k * f) / 4294967296, bor (dg s k) ((cr + dg v k * f) % 4294967296) b, _, by omega, hcr2, hb2, by go_num, by go_num, rfl, STEP⟩
   case measure => simp [intOf]; omega
  ·
   have hkm : k = m := by omega
   subst hkm
   have hvk : dg v k = 0 := dg_out (by rw [hv.len]; exact Nat.le_refl _)
   have ST := HA.out.step HI.out (by have := HS.out; omega) hg (tl := cr) (th := 0) (f := f) (u := 0) (by omega) hvk hcr hsk hb
   have hb2 : bor (dg s k) cr b ≤ 1 := (dif_bor hsk hcr hb).2.2
   have hsum := ST.sum
   rw [S_more v (k + 1) (by rw [hv.len]; omega), S_more s (k + 1) (by have := HS.out; omega), Nat.zero_add] at hsum
   have hown := ST.own
   rw [List.drop_eq_nil_of_le (by have := HS.out; omega), List.append_nil] at hown
   have HOWN := Lib.hid hown
   have HSUM := Lib.hid hsum
   have HLEN := Lib.hid ST.len
   have HBEL := Lib.hid (And.intro ST.below ST.gr)
   have HSB := Lib.hid (fun (w : World) => Sub32_any (dg s k) cr b w hsk hcr hb)
   clear ST hsum hown HA hv hvk
   generalize hx : dif (dg s k) cr b = x at *
   generalize hy : bor (dg s k) cr b = y at *
   clear hx hy
   have hy2 : y = 0 ∨ y = 1 := by omega
   rcases hy2 with rfl | rfl
   ·
    go_wp2_with fail
    refine ((HSB.out _)).mono ?_
    rintro e w' ⟨rfl, rfl⟩
    go_wp2
    go_ret
    exact ⟨false, _, rfl, HLEN.out, HOWN.out, HBEL.out, HSUM.out⟩
   ·
    go_wp2_with fail
    refine ((HSB.out _)).mono ?_
    rintro e w' ⟨rfl, rfl⟩
    go_wp2
    go_ret
    exact ⟨true, _, rfl, HLEN.out, HOWN.out, HBEL.out, HSUM.out⟩
structure BackAt (ws w0 wr : World) (g C N i : Nat) (pre s v post : List Nat) (k c : Nat) (r : List Nat) : Prop where
 len : r.length = k
 own : Own wr w0.heap.size (some ⟨g, 0, none⟩) C N (pre ++ (r ++ s.drop k) ++ post)
 sum : val r + 4294967296 ^ k * c = S (fun j => dg s j) k + S (fun j => dg v j) k
 below : Below w0.heap.size w0 wr
 gr : ws.grownBy wr (some g)
theorem BackAt.step {ws w0 wr : World} {g C N i : Nat} {pre s v post : List Nat} {k c : Nat} {r : List Nat} (h : BackAt ws w0 wr g C N i pre s v post k c r) (hi : pre.length = i) (hk : k < s.length) (hg : w0.heap.size ≤ g) :
  BackAt ws w0 (wr.drew.setCell ⟨g, i + k, none⟩ (.int .u32 (((dg s k + dg v k + c) % 4294967296 : Nat) : Int))) g C N i pre s v post (k + 1) ((dg s k + dg v k + c) / 4294967296) (r ++ [(dg s k + dg v k + c) % 4294967296]) := by
 have hl : (r ++ s.drop k).length = s.length := by simp [h.len]; omega
 refine ⟨by simp [h.len], ?_, ?_, h.below.drew.setCell hg _, grown_set (grown_drew h.gr)⟩
 ·
  have h3 := h.own.drew.set (j := i + k) (x := (dg s k + dg v k + c) % 4294967296) (Nat.mod_lt _ (by omega))
  rw [set_mid hi (by omega), set_split h.len hk] at h3
  exact h3
 ·
  rw [val_snoc, h.len, S, S, Nat.pow_succ]
  exact add_step h.sum (by omega)
set_option maxHeartbeats 1600000 in
theorem addBack_any (w0 : World) (g i m C N c cy : Nat) (Y : Option Addr) (pre s v post : List Nat) (w : World) (hg : w0.heap.size ≤ g) (hm : m ≤ 1000000000000) (hN : N ≤ 10000000000000) (hi : pre.length = i) (hs : s.length = m + 1)
  (hv : Row w0 0 Y m v) (hbel : Below w0.heap.size w0 w) (ho : Own w w0.heap.size (some ⟨g, 0, none⟩) C N (pre ++ s ++ post)) :
  Calls Try.prog 108 #[.slice (some ⟨g, i, none⟩) (m + 1 : Nat) c, .slice Y m cy] w fun e w' => e = .returned (.tuple #[]) ∧ ∃ (s' : List Nat) (cr : Nat), cr ≤ 1 ∧ s'.length = m + 1 ∧ Own w' w0.heap.size (some ⟨g, 0, none⟩) C N (pre ++ s' ++ post) ∧ (Below w0.heap.size w0 w' ∧ w.grownBy w' (some g)) ∧ val s' + 4294967296 ^ (m + 1) * cr = val s + val v := by
 have hiN : i + m + 1 ≤ N := by have := ho.len; simp at this; omega
 have HST : Hid (BackAt w w0 w g C N i pre s v post 0 0 []) := ⟨rfl, by simpa using ho, by simp [val, S], hbel, World.grownBy.refl _ _⟩
 have ls : L32 s := by
  intro j
  by_cases hj : j < s.length
  ·
   have := ho.l32 (i + j)
   rwa [dg_mid hi hj] at this
  · rw [dg_out (by omega)]; omega
 clear ho hbel
 have HS := Lib.hid hs
 have HI := Lib.hid hi
 clear hs hi
 go_enter Try.func108, Try.ntmps108
 go_wp2
 go_loopw [4, 5, 8] (fun cv _ iv wr => ∃ (k cr : Nat) (r : List Nat), k ≤ m + 1 ∧ cr ≤ 1 ∧ iv = .int .i64 k ∧ cv = .int .u32 cr ∧ Hid (BackAt w w0 wr g C N i pre s v post k cr r)) (fun _ _ iv _ => m + 1 - (intOf iv).toNat)
 case atStart => exact ⟨0, 0, [], by omega, by omega, rfl, rfl, HST⟩
 case round =>
  obtain ⟨k, cr, r, hk, hcr, rfl, rfl, HA⟩ := hrel
  by_cases h0 : k < m + 1
  ·
   have hl : k < (r ++ s.drop k).length := by have := HA.out.len; have := HS.out; simp; omega
   obtain ⟨b2, off2, hA, h3, h4, hc2⟩ := HA.out.own.row.mem (by omega)
   injection hA with hA
   injection hA with e1 e2
   subst e1 e2
   have hcs := hc2 (i + k) (by omega)
   rw [Nat.zero_add, dg_mid HI.out hl, dg_split HA.out.len] at hcs
   have hfs := HA.out.own.own.frozenAt (i + k)
   have hsk := ls k
   have hvk := hv.l32 k
   have hb1 := hv.below HA.out.below
   have STEP := Lib.hid (HA.out.step HI.out (by have := HS.out; omega) hg)
   clear hc2 HST hl HA hv
   go_wp2
   go_region_with (first | (go_at_call 109; refine (limbAt_any Y m cy v k k _ (by omega) hb1.drew rfl).mono ?_; rintro e w' ⟨rfl, rfl⟩) | (go_at_call 111; refine (Add32_any (dg s k) (dg v k) cr _ (by omega) (by omega) (by omega)).mono ?_; rintro e w' ⟨rfl, rfl⟩))
   all_goals
    go_wp2
    go_roundw
    case rel => exact ⟨k + 1, (dg s k + dg v k + cr) / 4294967296, _, by omega, by omega, by go_num, rfl, STEP⟩
    case measure => simp [intOf]; omega
  ·
   have hkm : k = m + 1 := by omega
   subst hkm
   have hsum := HA.out.sum
   rw [S_more v (m + 1) (by rw [hv.len]; omega), S_more s (m + 1) (by have := HS.out; omega)] at hsum
   have hown := HA.out.own
   rw [List.drop_eq_nil_of_le (by have := HS.out; omega), List.append_nil] at hown
   have HOWN := Lib.hid hown
   have HSUM := Lib.hid hsum
   have HLEN := Lib.hid HA.out.len
   have HBEL := Lib.hid (And.intro HA.out.below HA.out.gr)
   clear hsum hown HA hv HST
   go_wp2
   go_end0
   exact ⟨rfl, r, cr, hcr, HLEN.out, HOWN.out, HBEL.out, HSUM.out⟩
end Go.Proofs.Ytjbhhccklfddaaa
namespace Go.Proofs.Ytjbhhccklfddaaa
set_option maxRecDepth 20000
open Go.RowKit
theorem Row.mid {w : World} {lo g N c i k : Nat} {pre s post : List Nat} (h : Own w lo (some ⟨g, 0, none⟩) c N (pre ++ s ++ post)) (hi : pre.length = i) (hs : s.length = k) : Row w lo (some ⟨g, i, none⟩) k s := by
 refine ⟨hs, ?_, fun h0 => ?_⟩
 ·
  intro j
  by_cases hj : j < s.length
  ·
   have := h.l32 (i + j)
   rwa [dg_mid hi hj] at this
  · rw [dg_out (by omega)]; omega
 ·
  have hN : 0 < N := by have := h.len; simp at this; omega
  obtain ⟨b, off, e, h1, h2, hc⟩ := h.row.mem hN
  injection e with e
  injection e with e1 e2
  subst e1 e2
  refine ⟨g, i, rfl, h1, h2, fun j hj => ?_⟩
  have := hc (i + j) (by have := h.len; simp at this; omega)
  rw [Nat.zero_add, dg_mid hi (by omega)] at this
  exact this
theorem one_le {d v p s P : Nat} (h : s + d * v = p + P * true.toNat) (hP : s < P) : 1 ≤ d := by
 rcases Nat.eq_zero_or_pos d with h0 | h0
 ·
  subst h0
  simp at h
  omega
 · exact h0
theorem one_mul' {d v p s P : Nat} (h : s + d * v = p + P * true.toNat) : s + d * v = p + P := by simpa using h
theorem zero_mul' {d v p s P : Nat} (h : s + d * v = p + P * false.toNat) : s + d * v = p := by simpa using h
structure Less (ws w0 w' : World) (g C N m i : Nat) (pre s s' v post : List Nat) (d : Nat) (bw : Bool) : Prop where
 len : s'.length = m + 1
 own : Own w' w0.heap.size (some ⟨g, 0, none⟩) C N (pre ++ s' ++ post)
 below : Below w0.heap.size w0 w'
 gr : ws.grownBy w' (some g)
 sum : val s' + d * val v = val s + 4294967296 ^ (m + 1) * bw.toNat
theorem Less.one {ws w0 w' : World} {g C N m i : Nat} {pre s s' v post : List Nat} {d : Nat} (h : Less ws w0 w' g C N m i pre s s' v post d true) (hi : pre.length = i) : 1 ≤ d := by
 have h1 := val_lt (Row.mid h.own hi h.len).l32
 rw [h.len] at h1
 exact one_le h.sum h1
structure Back (ws w0 w' : World) (g C N m : Nat) (pre s s' v post : List Nat) : Prop where
 len : s'.length = m + 1
 own : Own w' w0.heap.size (some ⟨g, 0, none⟩) C N (pre ++ s' ++ post)
 below : Below w0.heap.size w0 w'
 gr : ws.grownBy w' (some g)
 sum : ∃ cr, cr ≤ 1 ∧ val s' + 4294967296 ^ (m + 1) * cr = val s + val v
structure Taken (ws w0 w' : World) (g C N m : Nat) (pre s s' v post : List Nat) (q : Nat) : Prop where
 len : s'.length = m + 1
 own : Own w' w0.heap.size (some ⟨g, 0, none⟩) C N (pre ++ s' ++ post)
 below : Below w0.heap.size w0 w'
 gr : ws.grownBy w' (some g)
 sum : val s' + q * val v = val s
 less : val s' < val v
theorem Less.taken {ws w0 w' : World} {g C N m i : Nat} {pre s s' v post : List Nat} {d : Nat} (h : Less ws w0 w' g C N m i pre s s' v post d false) (hup : val s < (d + 1) * val v) : Taken ws w0 w' g C N m pre s s' v post d := by
 have hs := zero_mul' h.sum
 exact ⟨h.len, h.own, h.below, h.gr, hs, take_ok hs hup⟩
theorem grown_trans {a b c : World} {row : Option Nat} (h : a.grownBy b row) (k : b.grownBy c row) : a.grownBy c row :=
 ⟨k.os.trans h.os, k.tape.trans h.tape, k.output.trans h.output, Nat.le_trans h.size k.size, fun q hq hne => (k.block q (by have := h.size; omega) hne).trans (h.block q hq hne)⟩
theorem Back.taken {ws w0 w1 w' : World} {g C N m i : Nat} {pre s s1 s' v post : List Nat} {e : Nat} (hb : Back w1 w0 w' g C N m pre s1 s' v post) (hl : Less ws w0 w1 g C N m i pre s s1 v post (e + 1) true) (hi : pre.length = i) (hle : (e + 1) * val v ≤ val s + val v) : Taken ws w0 w' g C N m pre s s' v post e := by
 have h1 := val_lt (Row.mid hl.own hi hl.len).l32
 rw [hl.len] at h1
 have h2 := val_lt (Row.mid hb.own hi hb.len).l32
 rw [hb.len] at h2
 obtain ⟨cr, hcr, hs⟩ := hb.sum
 obtain ⟨_, k2, k3⟩ := back_ok (one_mul' hl.sum) h1 hs h2 hle hcr
 exact ⟨hb.len, hb.own, hb.below, grown_trans hl.gr hb.gr, by simpa using k2, k3⟩
theorem Taken.back {w w1 w0 w' : World} {g C N m q q1 : Nat} {pre s s' v post : List Nat} (h : Taken w1 w0 w' g C N m pre s s' v post q) (hw : w1 = w.drewN q1) : Taken w w0 w' g C N m pre s s' v post q := by
 subst hw
 exact ⟨h.len, h.own, h.below, ⟨h.gr.os, h.gr.tape, h.gr.output, h.gr.size, h.gr.block⟩, h.sum, h.less⟩
theorem lessTimes_w (w0 : World) (g i m C N c cy f : Nat) (Y : Option Addr) (pre s v post : List Nat) (w : World) (hg : w0.heap.size ≤ g) (hm : m ≤ 1000000000000) (hN : N ≤ 10000000000000) (hi : pre.length = i) (hs : s.length = m + 1) (hf : f < 4294967296)
  (hv : Row w0 0 Y m v) (hbel : Below w0.heap.size w0 w) (ho : Own w w0.heap.size (some ⟨g, 0, none⟩) C N (pre ++ s ++ post)) :
  Calls Try.prog 107 #[.slice (some ⟨g, i, none⟩) (m + 1 : Nat) c, .slice Y m cy, .int .u32 (f : Int)] w fun e w' => ∃ (bw : Bool) (s' : List Nat), e = .returned (.bool bw) ∧ Less w w0 w' g C N m i pre s s' v post f bw :=
 (lessTimes_any w0 g i m C N c cy f Y pre s v post w hg hm hN hi hs hf hv hbel ho).mono fun _ _ ⟨bw, s', h1, h2, h3, h4, h5⟩ => ⟨bw, s', h1, h2, h3, h4.1, h4.2, h5⟩
theorem addBack_w (w0 : World) (g i m C N c cy : Nat) (Y : Option Addr) (pre s v post : List Nat) (w : World) (hg : w0.heap.size ≤ g) (hm : m ≤ 1000000000000) (hN : N ≤ 10000000000000) (hi : pre.length = i) (hs : s.length = m + 1)
  (hv : Row w0 0 Y m v) (hbel : Below w0.heap.size w0 w) (ho : Own w w0.heap.size (some ⟨g, 0, none⟩) C N (pre ++ s ++ post)) :
  Calls Try.prog 108 #[.slice (some ⟨g, i, none⟩) (m + 1 : Nat) c, .slice Y m cy] w fun e w' => e = .returned (.tuple #[]) ∧ ∃ (s' : List Nat), Back w w0 w' g C N m pre s s' v post :=
 (addBack_any w0 g i m C N c cy Y pre s v post w hg hm hN hi hs hv hbel ho).mono fun _ _ ⟨h0, s', cr, h1, h2, h3, h4, h5⟩ => ⟨h0, s', h2, h3, h4.1, h4.2, cr, h1, h5⟩
theorem guess_w (X Y : Option Addr) (m cx cy : Nat) (p v : List Nat) (w : World) (hm : 2 ≤ m) (hm2 : m ≤ 1000000000000) (hp : Row w 0 X (m + 1) p) (hv : Row w 0 Y m v) (hn : 2147483648 ≤ dg v (m - 1)) (hlt : val p < val v * 4294967296) :
  Calls Try.prog 106 #[.slice X (m + 1 : Nat) cx, .slice Y m cy] w fun e w' => ∃ d : Nat, e = .returned (.int .u32 (d : Int)) ∧ Hid (d < 4294967296 ∧ val p < (d + 1) * val v ∧ d * val v ≤ val p + val v) ∧ ∃ q, w' = w.drewN q :=
 (guess_any X Y m cx cy p v w hm hm2 hp hv hn hlt).mono fun _ _ ⟨d, h1, h2, h3, h4, h5⟩ => ⟨d, h1, ⟨h2, h3, h4⟩, h5⟩
set_option maxHeartbeats 800000 in
theorem takeOut_any (w0 : World) (g i m C N c cy : Nat) (Y : Option Addr) (pre s v post : List Nat) (w : World) (hg : w0.heap.size ≤ g) (hm1 : 2 ≤ m) (hm : m ≤ 1000000000000) (hN : N ≤ 10000000000000) (hi : pre.length = i) (hs : s.length = m + 1)
  (hv : Row w0 0 Y m v) (hbel : Below w0.heap.size w0 w) (ho : Own w w0.heap.size (some ⟨g, 0, none⟩) C N (pre ++ s ++ post)) (hn : 2147483648 ≤ dg v (m - 1)) (hlt : val s < val v * 4294967296) :
  Calls Try.prog 103 #[.slice (some ⟨g, i, none⟩) (m + 1 : Nat) c, .slice Y m cy] w fun e w' => ∃ (q : Nat) (s' : List Nat), e = .returned (.int .u32 (q : Int)) ∧ Hid (q < 4294967296) ∧ Taken w w0 w' g C N m pre s s' v post q := by
 have hrow := (Row.mid ho hi hs).lower (Nat.zero_le _)
 have HG := Lib.hid (guess_w _ Y m c cy s v w hm1 hm hrow (hv.below hbel) hn hlt)
 have HL := Lib.hid (fun (w1 : World) (d : Nat) (hd : d < 4294967296) (q : Nat) (hw : w1 = w.drewN q) => lessTimes_w w0 g i m C N c cy d Y pre s v post w1 hg hm hN hi hs hd hv (hbel.trans (by rw [hw]; exact below_drewN' _ _ _)) (by rw [hw]; exact ho.drewN q))
 have HA := Lib.hid (fun (w1 w2 : World) (s1 : List Nat) (d : Nat) (bw : Bool) (h : Less w1 w0 w2 g C N m i pre s s1 v post d bw) => addBack_w w0 g i m C N c cy Y pre s1 v post w2 hg hm hN hi h.len hv h.below h.own)
 have HI := Lib.hid hi
 clear ho hrow hbel hv hi hs hn hlt
 go_enter Try.func103, Try.ntmps103
 go_wp2_with fail
 refine HG.out.mono ?_
 rintro e w1 ⟨d, rfl, HD, q1, hw1⟩
 have HW := Lib.hid hw1
 clear hw1 HG
 go_wp2_with fail
 refine (HL.out _ d HD.out.1 q1 HW.out).mono ?_
 rintro e w2 ⟨bw, s', rfl, hl⟩
 cases bw with
 |
  false =>
  have HT := Lib.hid ((hl.taken HD.out.2.1).back HW.out)
  clear hl HL HA
  go_wp2
  go_ret
  exact ⟨d, s', rfl, HD.out.1, HT.out⟩
 |
  true =>
  have h1 := hl.one HI.out
  obtain ⟨e, rfl⟩ : ∃ e, d = e + 1 := ⟨d - 1, by omega⟩
  have h2 : e < 4294967295 := by have := HD.out.1; omega
  have HB := Lib.hid (HA.out _ _ s' _ _ hl)
  have HT := Lib.hid (fun w3 s2 (hb : Back w2 w0 w3 g C N m pre s' s2 v post) => (hb.taken hl HI.out HD.out.2.2).back HW.out)
  clear hl HL HA h1
  go_wp2_with fail
  refine HB.out.mono ?_
  rintro e' w3 ⟨rfl, s2, hb⟩
  have HT2 := Lib.hid (HT.out w3 s2 hb)
  clear hb HT HB
  go_wp2
  go_ret
  exact ⟨e, s2, ret_int (by omega), by show e < 4294967296; omega, HT2.out⟩
end Go.Proofs.Ytjbhhccklfddaaa
namespace Go.Proofs.Ytjbhhccklfddaaa
set_option maxRecDepth 20000
theorem bitLen_ok : ∀ y : Nat, 0 < y → y < 4294967296 → 2 ^ (Lib.bitLen y - 1) ≤ y ∧ y < 2 ^ Lib.bitLen y ∧ 1 ≤ Lib.bitLen y := by
 intro y
 induction y using Nat.strongRecOn with
 |
  _ y ih =>
  intro h0 hy
  have h := bitLen_half h0 hy
  by_cases h1 : y / 2 = 0
  ·
   have : y = 1 := by omega
   subst this
   have e : Lib.bitLen 1 = 1 := rfl
   rw [e]; omega
  ·
   obtain ⟨a, b, c⟩ := ih (y / 2) (by omega) (by omega) (by omega)
   rw [h]
   have e1 : 1 + Lib.bitLen (y / 2) - 1 = (Lib.bitLen (y / 2) - 1) + 1 := by omega
   rw [e1, Nat.pow_succ, Nat.add_comm 1, Nat.pow_succ]
   omega
theorem norm_ok {b : List Nat} {m up : Nat} (hm : 1 ≤ m) (hb : L32 b) (hlen : b.length = m) (ht : dg b (m - 1) ≠ 0) (hup : up = 32 - Lib.bitLen (dg b (m - 1))) :
  up < 32 ∧ (lim (val b * 2 ^ up)).length = m ∧ 2147483648 ≤ dg (lim (val b * 2 ^ up)) (m - 1) := by
 obtain ⟨k, rfl⟩ : ∃ k, m = k + 1 := ⟨m - 1, by omega⟩
 simp only [Nat.add_sub_cancel] at *
 have hy := hb k
 obtain ⟨h1, h2, h3⟩ := bitLen_ok (dg b k) (by omega) hy
 have h4 := bitLen_le32 hy
 have hv : val b = S (fun i => dg b i) k + 4294967296 ^ k * dg b k := by
  rw [← S_val b, hlen]; rfl
 have hlow := S_lt (f := fun i => dg b i) (k := k) fun i _ => hb i
 have e1 : 2 ^ (Lib.bitLen (dg b k) - 1) * 2 ^ up = 2147483648 := by
  rw [← Nat.pow_add, show Lib.bitLen (dg b k) - 1 + up = 31 by omega]
 have e2 : 2 ^ Lib.bitLen (dg b k) * 2 ^ up = 4294967296 := by
  rw [← Nat.pow_add, show Lib.bitLen (dg b k) + up = 32 by omega]
 obtain ⟨R, hR⟩ : ∃ R, R = 4294967296 ^ k := ⟨_, rfl⟩
 obtain ⟨y, hye⟩ : ∃ y, y = dg b k := ⟨_, rfl⟩
 obtain ⟨U, hU⟩ : ∃ U, U = 2 ^ up := ⟨_, rfl⟩
 obtain ⟨s, hs⟩ : ∃ s, s = S (fun i => dg b i) k := ⟨_, rfl⟩
 rw [← hR, ← hye, ← hs] at hv
 rw [← hR, ← hs] at hlow
 rw [← hye] at h1 h2 e1 e2
 rw [← hU] at e1 e2 ⊢
 have hUp : 0 < U := by rw [hU]; exact pow_pos2 up
 have f1 : 2147483648 ≤ y * U := by
  have := Nat.mul_le_mul_right U h1
  rw [e1] at this; exact this
 have f2 : (y + 1) * U ≤ 4294967296 := by
  have := Nat.mul_le_mul_right U h2
  rw [e2] at this; exact this
 have g1 : R * 2147483648 ≤ val b * U := by
  have := Nat.mul_le_mul_left R f1
  rw [hv, Nat.add_mul, Nat.mul_assoc]
  omega
 have g2 : val b * U < R * 4294967296 := by
  have a1 : val b < R * (y + 1) := by rw [hv, Nat.mul_add]; omega
  have a2 : val b * U < R * (y + 1) * U := Nat.mul_lt_mul_of_pos_right a1 hUp
  have a3 := Nat.mul_le_mul_left R f2
  rw [← Nat.mul_assoc] at a3
  omega
 have hk1 : 4294967296 ^ (k + 1) = R * 4294967296 := by rw [Nat.pow_succ, hR]
 have hle : (lim (val b * U)).length ≤ k + 1 := lim_len_lt (by rw [hk1]; exact g2)
 have hge : k < (lim (val b * U)).length := by
  refine lim_len_ge ?_
  rw [← hR]
  have : R * 1 ≤ R * 2147483648 := Nat.mul_le_mul_left R (by omega)
  omega
 have hl : (lim (val b * U)).length = k + 1 := by omega
 refine ⟨by omega, hl, ?_⟩
 have hv2 : val b * U = S (fun i => dg (lim (val b * U)) i) k + R * dg (lim (val b * U)) k := by
  have := S_val (lim (val b * U))
  rw [hl, val_lim] at this
  rw [S] at this
  rw [hR]
  exact this.symm
 have hlow2 := S_lt (f := fun i => dg (lim (val b * U)) i) (k := k) fun i _ => L32_lim _ i
 rw [← hR] at hlow2
 rcases Nat.lt_or_ge (dg (lim (val b * U)) k) 2147483648 with h | h
 ·
  exfalso
  have a1 := Nat.mul_le_mul_left R h
  rw [Nat.mul_succ] at a1
  omega
 · exact h
theorem val_cons_drop (L : List Nat) (i : Nat) (hi : i < L.length) : val (L.drop i) = dg L i + 4294967296 * val (L.drop (i + 1)) := by
 rw [List.drop_eq_getElem_cons hi, val]
 simp [dg_eq, hi]
theorem seg_val {L : List Nat} {i m V : Nat} (hV : V ≤ 4294967296 ^ (m + 1)) (hlt : val (L.drop i) < V) (hlen : i + m + 1 ≤ L.length) :
  val ((L.drop i).take (m + 1)) = val (L.drop i) ∧ val (L.drop (i + (m + 1))) = 0 := by
 have h := val_take_drop (L.drop i) (m + 1) (by simp; omega)
 rw [List.drop_drop] at h
 rcases Nat.eq_zero_or_pos (val (L.drop (i + (m + 1)))) with h0 | h0
 · rw [h0] at h; exact ⟨by omega, h0⟩
 ·
  exfalso
  have := Nat.mul_le_mul_left (4294967296 ^ (m + 1)) h0
  rw [Nat.mul_one] at this
  omega
end Go.Proofs.Ytjbhhccklfddaaa
