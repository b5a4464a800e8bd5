/-
  A row as 64 bits, and 64 bits as a row: both ways.
-/
import Derived.Test.YtffnjdfmaebmhaaGreatDoorBits
import Derived.Test.YtffnjdfmaebmhaaGreatDoorKnown
namespace Go.Proofs.YtffnjdfmaebmhaaGreatDoor
set_option maxRecDepth 20000
open Go.RowKit

theorem Own.two {w : World} {x y : Nat} {u v : Int} (hu : u = (x : Int)) (hv : v = (y : Int)) (hx : x < 4294967296) (hy : y < 4294967296) : Own (w.alloc (.cells #[.int .u32 u, .int .u32 v] 74)) w.heap.size (some ⟨w.heap.size, 0, none⟩) 2 2 [x, y] := by
  subst hu hv
  exact ⟨L32.cons hx (L32.cons hy L32.nil), rfl, .inr ⟨w.heap.size, 2, _, rfl, Nat.le_refl _, heap_alloc_new w _, Nat.le_refl _, by unfold maxLen; omega, rfl, rfl⟩⟩

set_option maxHeartbeats 400000 in
theorem To_no (A : Option Addr) (n c : Nat) (a : List Nat) (w : World) (hn : n ≤ 100000) (hcn : n ≤ c) (ha : Row w 0 A n a) (h2 : 2 < (lim (val a)).length) :
    Calls Tryz.prog 85 #[.slice A n c] w fun e w' => e = .returned (.tuple #[.int .u64 0, .bool false]) ∧ w = w' := by
  have hna : (lim (val a)).length ≤ n := by have := lim_len_le ha.l32; have := ha.len; omega
  go_enter Tryz.func85, Tryz.ntmps85
  go_wp2_with fail
  refine (head_any A n c a _ (by omega) hcn ha).mono ?_
  rintro e w' ⟨rfl, rfl⟩
  go_wp2
  go_ret2
  exact ⟨rfl, rfl⟩
set_option maxHeartbeats 400000 in
theorem rTo_no (A : Option Addr) (n c : Nat) (a : List Nat) (w : World) (hn : n ≤ 100000) (hcn : n ≤ c) (ha : Row w 0 A n a) (h2 : 2 < (lim (val a)).length) :
    Calls Tryz.prog 95 #[.slice A n c] w fun e w' => e = .returned (.tuple #[.int .u64 0, .bool false]) ∧ Below w.heap.size w w' := by
  have hna : (lim (val a)).length ≤ n := by have := lim_len_le ha.l32; have := ha.len; omega
  go_enter Tryz.func95, Tryz.ntmps95
  go_wp2_with fail
  refine (rTrim_any A n c a _ (by omega) hcn ha).mono ?_
  rintro e w0 ⟨X, cx, rfl, ho, hb0⟩
  clear ho
  go_wp2
  go_ret2
  exact ⟨rfl, hb0⟩

theorem S_two (f : Nat → Nat) : S f 1 = f 0 ∧ S f 2 = f 0 + f 1 * 4294967296 := by
  constructor
  · simp [S]
  · simp [S]; omega
theorem val_of_len2 {a : List Nat} (h : (lim (val a)).length ≤ 2) : val a < 18446744073709551616 := by
  have := val_lt (L32_lim (val a))
  rw [val_lim] at this
  have h2 : 4294967296 ^ (lim (val a)).length ≤ 4294967296 ^ 2 := Nat.pow_le_pow_right (by omega) h
  have e : 4294967296 ^ 2 = 18446744073709551616 := rfl
  omega
theorem or_step {x y : Nat} (hx : x < 4294967296) (hy : y < 4294967296) : bits BinOp.or IntKind.u64 (x : Int) ((y : Int) * 4294967296) = ((x + y * 4294967296 : Nat) : Int) := by
  have e : (y : Int) * 4294967296 = ((y * 4294967296 : Nat) : Int) := by omega
  rw [e, u64_or_nat _ _ (by omega) (by omega), Nat.or_comm, nat_join 32 _ x (by show y * 4294967296 % 4294967296 = 0; omega) hx, Nat.add_comm]
theorem or_zero64 {x : Nat} (hx : x < 4294967296) : bits BinOp.or IntKind.u64 0 (x : Int) = ((x : Nat) : Int) := by
  have := u64_or_nat 0 x (by omega) (by omega)
  rw [Nat.zero_or] at this
  exact this

set_option maxHeartbeats 800000 in
theorem To_yes (A : Option Addr) (n c : Nat) (a : List Nat) (w : World) (hn : n ≤ 100000) (hcn : n ≤ c) (ha : Row w 0 A n a) (h2 : (lim (val a)).length ≤ 2) :
    Calls Tryz.prog 85 #[.slice A n c] w fun e w' => e = .returned (.tuple #[.int .u64 (val a : Nat), .bool true]) ∧ w = w' := by
  have hna : (lim (val a)).length ≤ n := by have := lim_len_le ha.l32; have := ha.len; omega
  have hla := ha.lim
  have hd : decide (2 < ((lim (val a)).length : Int)) = false := by rw [decide_eq_false_iff_not]; omega
  go_enter Tryz.func85, Tryz.ntmps85
  go_wp2_with fail
  refine (head_any A n c a _ (by omega) hcn ha).mono ?_
  rintro e w' ⟨rfl, rfl⟩
  go_wp2
  go_loop [4, 5, 6, 14] (fun nv _ _ iv => ∃ k : Nat, k ≤ (lim (val a)).length ∧ iv = .int .i64 k ∧ ∃ v : Int, nv = .int .u64 v ∧ Hid (v = ((S (fun i => dg (lim (val a)) i) k : Nat) : Int))) (fun _ _ _ iv => (lim (val a)).length - (intOf iv).toNat)
  case atStart => exact ⟨0, by omega, rfl, 0, rfl, rfl⟩
  case round =>
    obtain ⟨k, hk, rfl, v, rfl, HV⟩ := hrel
    by_cases h0 : k < (lim (val a)).length
    · obtain ⟨b, off, rfl, h1, h3, hc⟩ := hla.mem (by omega)
      have hcb := hc k h0
      have hx := hla.l32 k
      have hx0 := hla.l32 0
      have hk01 : k = 0 ∨ k = 1 := by omega
      clear hc
      rcases hk01 with rfl | rfl
      · have hv : v = 0 := HV.out
        subst hv
        rw [Nat.add_zero] at hcb
        have HN : Hid (bits BinOp.or IntKind.u64 0 ((dg (lim (val a)) 0 : Nat) : Int) = ((S (fun i => dg (lim (val a)) i) 1 : Nat) : Int)) := by
          show _ = _
          rw [or_zero64 hx0, (S_two _).1]
        clear HV
        go_wp2
        go_round
        case rel => exact ⟨1, by omega, by go_num, _, rfl, HN⟩
        case measure => simp [intOf]; omega
      · have hv : v = ((dg (lim (val a)) 0 : Nat) : Int) := by
          have := HV.out
          rw [(S_two _).1] at this
          exact this
        subst hv
        have HN : Hid (bits BinOp.or IntKind.u64 ((dg (lim (val a)) 0 : Nat) : Int) (((dg (lim (val a)) 1 : Nat) : Int) * 4294967296) = ((S (fun i => dg (lim (val a)) i) 2 : Nat) : Int)) := by
          show _ = _
          rw [or_step hx0 hx, (S_two _).2]
        clear HV
        go_wp2
        go_round
        case rel => exact ⟨2, by omega, by go_num, _, rfl, HN⟩
        case measure => simp [intOf]; omega
    · have hE : Hid (v = ((val a : Nat) : Int)) := by
        show _ = _
        rw [HV.out, S_more (lim (val a)) k (by omega), val_lim]
      clear HV
      go_wp2
      go_ret2
      exact ⟨by rw [hE.out]; rfl, rfl⟩

theorem val_drop_step (l : List Nat) (k : Nat) (hk : k < l.length) : val (l.drop k) = dg l k + 4294967296 * val (l.drop (k + 1)) := by
  rw [List.drop_eq_getElem_cons hk, val]
  simp [dg_eq, hk]

set_option maxHeartbeats 800000 in
theorem rTo_yes (A : Option Addr) (n c : Nat) (a : List Nat) (w : World) (hn : n ≤ 100000) (hcn : n ≤ c) (ha : Row w 0 A n a) (h2 : (lim (val a)).length ≤ 2) :
    Calls Tryz.prog 95 #[.slice A n c] w fun e w' => e = .returned (.tuple #[.int .u64 (val a : Nat), .bool true]) ∧ Below w.heap.size w w' := by
  have hna : (lim (val a)).length ≤ n := by have := lim_len_le ha.l32; have := ha.len; omega
  have hd : decide (2 < ((lim (val a)).length : Int)) = false := by rw [decide_eq_false_iff_not]; omega
  go_enter Tryz.func95, Tryz.ntmps95
  go_wp2_with fail
  refine (rTrim_any A n c a _ (by omega) hcn ha).mono ?_
  rintro e w0 ⟨X, cx, rfl, ho, hb0⟩
  have hla := ho.row
  clear ho
  go_wp2
  go_loop [5, 6] (fun nv iv => ∃ k : Nat, k ≤ (lim (val a)).length ∧ iv = .int .i64 ((k : Int) - 1) ∧ ∃ v : Nat, nv = .int .u64 v ∧ Hid (v = val ((lim (val a)).drop k))) (fun _ iv => (intOf iv + 1).toNat)
  case atStart => exact ⟨_, Nat.le_refl _, rfl, 0, rfl, by show _ = _; simp [val]⟩
  case round =>
    obtain ⟨k, hk, rfl, v, rfl, HV⟩ := hrel
    by_cases h0 : k = 0
    · subst h0
      have hE : Hid (v = val a) := by
        show _ = _
        rw [HV.out, List.drop_zero, val_lim]
      clear HV
      go_wp2
      go_ret2
      exact ⟨by rw [hE.out]; rfl, hb0⟩
    · obtain ⟨k, rfl⟩ : ∃ j, k = j + 1 := ⟨k - 1, by omega⟩
      obtain ⟨b, off, rfl, h1, h3, hc⟩ := hla.mem (by omega)
      have hcb := hc k (by omega)
      have hx := hla.l32 k
      have hk1 : k < (lim (val a)).length := by omega
      have he1 : ((k + 1 : Nat) : Int) - 1 = (k : Int) := by omega
      simp only [he1]
      have hv : v < 4294967296 := by
        rw [HV.out]
        have h4 := val_lt ((L32_lim (val a)).drop (k + 1))
        have h5 : 4294967296 ^ ((lim (val a)).drop (k + 1)).length ≤ 4294967296 ^ 1 := Nat.pow_le_pow_right (by omega) (by simp; omega)
        omega
      have HN : Hid (∃ u : Nat, bits BinOp.or IntKind.u64 ((v : Int) * 4294967296) ((dg (lim (val a)) k : Nat) : Int) = (u : Int) ∧ u = val ((lim (val a)).drop k)) := by
        refine ⟨dg (lim (val a)) k + 4294967296 * v, ?_, ?_⟩
        · have e : (v : Int) * 4294967296 = ((v * 4294967296 : Nat) : Int) := by omega
          rw [e, u64_or_nat _ _ (by omega) (by omega), nat_join 32 _ _ (by show v * 4294967296 % 4294967296 = 0; omega) hx]
          omega
        · rw [val_drop_step _ _ hk1, ← HV.out]
      clear HV hc he1
      obtain ⟨u, hu1, hu2⟩ := HN.out
      have HU1 := Lib.hid hu1
      have HU2 := Lib.hid hu2
      clear hu1 hu2 HN
      go_wp2
      go_round
      case rel => exact ⟨k, by omega, rfl, u, by rw [← HU1.out], HU2⟩
      case measure => simp [intOf]

set_option maxHeartbeats 400000 in
theorem Of_any (x : Nat) (w : World) (hx : x < 18446744073709551616) :
    Calls Tryz.prog 86 #[.int .u64 (x : Int)] w fun e w' => ∃ A2 c2, e = .returned (.slice A2 (lim x).length c2) ∧ Own w' w.heap.size A2 c2 (lim x).length (lim x) ∧ Below w.heap.size w w' := by
  have e1 : Hid (val [x % 4294967296, x / 4294967296] = x) := by show _ = _; simp [val]; omega
  have hlow := Row.two (w := w) (x := x % 4294967296) (y := x / 4294967296) (u := (x : Int) % 4294967296) (v := (x : Int) / 4294967296) (lo := 0) (by omega) (by omega) (by omega) (by omega) (Nat.zero_le _)
  have ho := Own.two (w := w) (x := x % 4294967296) (y := x / 4294967296) (u := (x : Int) % 4294967296) (v := (x : Int) / 4294967296) (by omega) (by omega) (by omega) (by omega)
  have HO := Lib.hid ho.lim
  clear ho
  go_enter Tryz.func86, Tryz.ntmps86
  go_wp2_with fail
  refine (head_any _ 2 2 [x % 4294967296, x / 4294967296] _ (by omega) (Nat.le_refl _) hlow).mono ?_
  rintro e w' ⟨rfl, rfl⟩
  go_wp2
  go_ret
  have HO2 := HO.out
  rw [e1.out] at HO2
  exact ⟨_, _, by rw [e1.out]; rfl, HO2, below_alloc _ _⟩
set_option maxHeartbeats 400000 in
theorem rOf_any (x : Nat) (w : World) (hx : x < 18446744073709551616) :
    Calls Tryz.prog 48 #[.int .u64 (x : Int)] w fun e w' => ∃ A2 c2, e = .returned (.slice A2 (lim x).length c2) ∧ Own w' w.heap.size A2 c2 (lim x).length (lim x) ∧ Below w.heap.size w w' := by
  have e1 : Hid (val [x % 4294967296, x / 4294967296] = x) := by show _ = _; simp [val]; omega
  have hlow := Row.two (w := w) (x := x % 4294967296) (y := x / 4294967296) (u := (x : Int) % 4294967296) (v := (x : Int) / 4294967296) (lo := 0) (by omega) (by omega) (by omega) (by omega) (Nat.zero_le _)
  go_enter Tryz.func48, Tryz.ntmps48
  go_wp2_with fail
  refine (rTrim_any _ 2 2 [x % 4294967296, x / 4294967296] _ (by omega) (Nat.le_refl _) hlow).mono ?_
  rintro e w3 ⟨A3, c3, rfl, ho3, hb3⟩
  have HO := Lib.hid ho3
  have HB := Lib.hid ((below_alloc w _).trans (hb3.mono (by simp)))
  clear ho3 hb3
  go_wp2
  go_ret
  have HO2 := HO.out
  rw [e1.out] at HO2
  exact ⟨A3, c3, by rw [e1.out]; rfl, HO2.lower (by simp), HB.out⟩
end Go.Proofs.YtffnjdfmaebmhaaGreatDoor
