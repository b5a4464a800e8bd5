/-
  How many bits a row takes; a row as 64 bits, and back: both ways.
-/
import Derived.Test.YtmehlbdlllkcgaaLen
import Derived.Test.YtmehlbdlllkcgaaShiftDn
namespace Go.Proofs.Ytmehlbdlllkcgaa
set_option maxRecDepth 20000
open Go.RowKit

/-- How many bits a number takes. -/
def nbits (x : Nat) : Nat := if (lim x).length = 0 then 0 else 32 * ((lim x).length - 1) + Lib.bitLen (dg (lim x) ((lim x).length - 1))
theorem bitLen_half {y : Nat} (h0 : 0 < y) (hy : y < 4294967296) : Lib.bitLen y = 1 + Lib.bitLen (y / 2) := by
  have e : Lib.bitLenAux 64 (y / 2) = Lib.bitLenAux 63 (y / 2) := Lib.bitLenAux_fuel 63 (y / 2) (by omega) 64 (by omega)
  unfold Lib.bitLen
  rw [e]
  show (if y = 0 then 0 else 1 + Lib.bitLenAux 63 (y / 2)) = _
  rw [if_neg (by omega)]
theorem bitLen_le32 {y : Nat} (hy : y < 4294967296) : Lib.bitLen y ≤ 32 := by
  have e : Lib.bitLenAux 64 y = Lib.bitLenAux 32 y := Lib.bitLenAux_fuel 32 y (by omega) 64 (by omega)
  unfold Lib.bitLen
  rw [e]
  have h : ∀ f x, Lib.bitLenAux f x ≤ f := by
    intro f
    induction f with
    | zero => intro x; simp [Lib.bitLenAux]
    | succ f ih => intro x; simp only [Lib.bitLenAux]; split
                   · omega
                   · have := ih (x / 2); omega
  exact h 32 y

set_option maxHeartbeats 800000 in
theorem Bits_any (A : Option Addr) (n c : Nat) (a : List Nat) (w : World) (hn : n ≤ 100000) (hcn : n ≤ c) (ha : Row w 0 A n a) :
    Calls Try.prog 91 #[.slice A n c] w fun e w' => e = .returned (.int .i64 (nbits (val a) : Nat)) ∧ w = w' := by
  have hla := ha.lim
  have hna : (lim (val a)).length ≤ n := by have := lim_len_le ha.l32; have := ha.len; omega
  by_cases h0 : (lim (val a)).length = 0
  · have E : Hid (nbits (val a) = 0) := by show _ = _; unfold nbits; rw [if_pos h0]
    have h0' : (lim (val a)).length ≤ 0 := by omega
    have hb : (((lim (val a)).length : Int) == 0) = true := by rw [beq_iff_eq]; omega
    clear h0
    go_enter Try.func91, Try.ntmps91
    go_wp2_with fail
    refine (head_any A n c a _ (by omega) hcn ha).mono ?_
    rintro e w' ⟨rfl, rfl⟩
    go_wp2
    go_ret
    exact ⟨ret_int (by rw [E.out]; rfl), rfl⟩
  · have E : Hid (nbits (val a) = 32 * ((lim (val a)).length - 1) + Lib.bitLen (dg (lim (val a)) ((lim (val a)).length - 1))) := by show _ = _; unfold nbits; rw [if_neg h0]
    have hb : (((lim (val a)).length : Int) == 0) = false := by rw [beq_eq_false_iff_ne]; omega
    have hp : 0 < (lim (val a)).length := by omega
    obtain ⟨b, off, rfl, h1, h2, hc⟩ := hla.mem hp
    have hcb := hc ((lim (val a)).length - 1) (by omega)
    have hx := hla.l32 ((lim (val a)).length - 1)
    have hle := bitLen_le32 hx
    have hL := fun (w : World) => Len32_any (dg (lim (val a)) ((lim (val a)).length - 1)) w hx
    have HL := Lib.hid hL
    clear h0 hc hL
    go_enter Try.func91, Try.ntmps91
    go_wp2_with fail
    refine (head_any _ n c a _ (by omega) hcn ha).mono ?_
    rintro e w' ⟨rfl, rfl⟩
    go_wp2_with fail
    refine (HL.out _).mono ?_
    rintro e w' ⟨rfl, rfl⟩
    go_wp2
    go_ret
    exact ⟨ret_int (by rw [E.out]; omega), rfl⟩

set_option maxHeartbeats 800000 in
theorem rBits_any (A : Option Addr) (n c : Nat) (a : List Nat) (w : World) (hn : n ≤ 100000) (hcn : n ≤ c) (ha : Row w 0 A n a) :
    Calls Try.prog 73 #[.slice A n c] w fun e w' => e = .returned (.int .i64 (nbits (val a) : Nat)) ∧ Below w.heap.size w w' := by
  have hna : (lim (val a)).length ≤ n := by have := lim_len_le ha.l32; have := ha.len; omega
  by_cases h0 : (lim (val a)).length = 0
  · have E : Hid (nbits (val a) = 0) := by show _ = _; unfold nbits; rw [if_pos h0]
    have h0' : (lim (val a)).length ≤ 0 := by omega
    have hb : (((lim (val a)).length : Int) == 0) = true := by rw [beq_iff_eq]; omega
    clear h0
    go_enter Try.func73, Try.ntmps73
    go_wp2_with fail
    refine (rTrim_any A n c a _ (by omega) hcn ha).mono ?_
    rintro e w0 ⟨X, cx, rfl, ho, hb0⟩
    clear ho
    go_wp2
    go_ret
    exact ⟨ret_int (by rw [E.out]; rfl), hb0⟩
  · have E : Hid (nbits (val a) = 32 * ((lim (val a)).length - 1) + Lib.bitLen (dg (lim (val a)) ((lim (val a)).length - 1))) := by show _ = _; unfold nbits; rw [if_neg h0]
    have hb : (((lim (val a)).length : Int) == 0) = false := by rw [beq_eq_false_iff_ne]; omega
    have hp : 0 < (lim (val a)).length := by omega
    have hx := L32_lim (val a) ((lim (val a)).length - 1)
    have hle := bitLen_le32 hx
    clear h0
    go_enter Try.func73, Try.ntmps73
    go_wp2_with fail
    refine (rTrim_any A n c a _ (by omega) hcn ha).mono ?_
    rintro e w0 ⟨X, cx, rfl, ho, hb0⟩
    obtain ⟨b, off, rfl, h1, h2, hc⟩ := ho.row.mem hp
    have hcb := hc ((lim (val a)).length - 1) (by omega)
    clear ho hc h1 ha
    go_wp2
    go_loop [4, 5] (fun nv xv => ∃ k y : Nat, y < 4294967296 ∧ nv = .int .i64 ((32 * ((lim (val a)).length - 1) + k : Nat) : Int) ∧ xv = .int .u32 y ∧ Hid (k + Lib.bitLen y = Lib.bitLen (dg (lim (val a)) ((lim (val a)).length - 1))) ∧ k ≤ 32) (fun _ xv => (intOf xv).toNat)
    case atStart => exact ⟨0, _, hx, by first | rfl | (congr 1; omega), rfl, Nat.zero_add _, by omega⟩
    case round =>
      obtain ⟨k, y, hy, rfl, rfl, HK, hk32⟩ := hrel
      by_cases hy0 : 0 < y
      · have HK2 : Hid (k + 1 + Lib.bitLen (y / 2) = Lib.bitLen (dg (lim (val a)) ((lim (val a)).length - 1))) := by
          show _ = _
          have := HK.out
          rw [bitLen_half hy0 hy] at this
          omega
        have hk2 : k + 1 ≤ 32 := by have := HK2.out; omega
        clear HK
        go_wp2
        go_round
        case rel => exact ⟨k + 1, y / 2, by omega, by first | go_num | (congr 1; omega), by go_num, HK2, hk2⟩
        case measure => simp [intOf]; omega
      · have hz : y = 0 := by omega
        subst hz
        have E2 : Hid (k = Lib.bitLen (dg (lim (val a)) ((lim (val a)).length - 1))) := by
          show _ = _
          have := HK.out
          have e0 : Lib.bitLen 0 = 0 := rfl
          rw [e0] at this
          omega
        clear HK
        go_wp2
        go_ret
        exact ⟨by rw [E.out, ← E2.out]; rfl, hb0⟩
end Go.Proofs.Ytmehlbdlllkcgaa
