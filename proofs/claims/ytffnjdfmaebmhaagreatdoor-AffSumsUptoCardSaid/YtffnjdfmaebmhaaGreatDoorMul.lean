/-
  The program's Mul: a row so often added into a row.
-/
import Derived.Test.YtffnjdfmaebmhaaGreatDoorNAdd
namespace Go.Proofs.YtffnjdfmaebmhaaGreatDoor
set_option maxRecDepth 20000
open Go.RowKit

theorem val_set (L : List Nat) (k x : Nat) (hk : k < L.length) : val (L.set k x) + 4294967296 ^ k * dg L k = val L + 4294967296 ^ k * x := by
  induction L generalizing k with
  | nil => simp at hk
  | cons y L ih =>
    cases k with
    | zero => simp [val]; omega
    | succ k =>
      have h := ih k (by simpa using hk)
      simp only [List.set_cons_succ, val, dg_succ, Nat.pow_succ]
      have h2 := congrArg (4294967296 * ·) h
      simp only [Nat.mul_add] at h2
      rw [← Nat.mul_assoc, ← Nat.mul_assoc, Nat.mul_comm 4294967296 (4294967296 ^ k)] at h2
      omega
theorem dg_set_ne (L : List Nat) (k x j : Nat) (h : k ≠ j) : dg (L.set k x) j = dg L j := by
  rw [dg_eq, dg_eq, List.getElem?_set_ne h]

theorem mul_step {P Q R V0 V V' c f u s x c' T : Nat} (h : V + P * c = V0 + Q * (f * T)) (hs : V' + P * s = V + P * x) (ht : x + 4294967296 * c' = c + (u * f + s)) (hP : P = Q * R) :
    V' + (P * 4294967296) * c' = V0 + Q * (f * (T + R * u)) := by
  have e := congrArg (P * ·) ht
  simp only [Nat.mul_add] at e
  rw [← Nat.mul_assoc P 4294967296 c'] at e
  have e2 : Q * (f * (T + R * u)) = Q * (f * T) + P * (u * f) := by
    rw [hP, Nat.mul_add, Nat.mul_add, Nat.mul_assoc Q R]
    congr 2
    rw [Nat.mul_comm u f, Nat.mul_left_comm]
  rw [e2]
  omega

/-- What the loop of addTimes keeps. -/
structure TimesAt (w0 wr : World) (g N i f : Nat) (b L : List Nat) (k c : Nat) (L' : List Nat) : Prop where
  own : Own wr w0.heap.size (some ⟨g, 0, none⟩) N N L'
  sum : val L' + 4294967296 ^ (i + k) * c = val L + 4294967296 ^ i * (f * S (fun j => dg b j) k)
  rest : ∀ j, i + k ≤ j → dg L' j = dg L j
  below : Below w0.heap.size w0 wr

theorem TimesAt.step {w0 wr : World} {g N i f : Nat} {b L : List Nat} {k c : Nat} {L' : List Nat} (h : TimesAt w0 wr g N i f b L k c L') (hk : i + k < N) (hg : w0.heap.size ≤ g) :
    TimesAt w0 (wr.setCell ⟨g, i + k, none⟩ (.int .u32 (((c + (dg b k * f + dg L' (i + k))) % 4294967296 : Nat) : Int))) g N i f b L (k + 1) ((c + (dg b k * f + dg L' (i + k))) / 4294967296) (L'.set (i + k) ((c + (dg b k * f + dg L' (i + k))) % 4294967296)) := by
  refine ⟨h.own.set (by omega), ?_, ?_, h.below.setCell hg _⟩
  · have h1 := val_set L' (i + k) ((c + (dg b k * f + dg L' (i + k))) % 4294967296) (by rw [h.own.len]; exact hk)
    rw [S, show i + (k + 1) = (i + k) + 1 by omega, Nat.pow_succ]
    exact mul_step h.sum h1 (Nat.mod_add_div _ _) (Nat.pow_add _ _ _)
  · intro j hj
    rw [dg_set_ne _ _ _ _ (by omega)]
    exact h.rest j (by omega)

set_option maxHeartbeats 800000 in
theorem addTimes_any (w0 : World) (g i m N c cy f : Nat) (Y : Option Addr) (b L : List Nat) (w : World) (hg : w0.heap.size ≤ g) (hm : m ≤ 100000) (hN : N ≤ 1000000) (hi : i + m ≤ N) (hf : f < 4294967296)
    (hb0 : Row w0 0 Y m b) (hbel : Below w0.heap.size w0 w) (ho : Own w w0.heap.size (some ⟨g, 0, none⟩) N N L) :
    Calls Tryz.prog 94 #[.slice (some ⟨g, i, none⟩) m c, .slice Y m cy, .int .u32 f] w fun e w' => ∃ (cr : Nat) (L' : List Nat), e = .returned (.int .u32 cr) ∧ cr < 4294967296 ∧ TimesAt w0 w' g N i f b L m cr L' := by
  have HST : Hid (TimesAt w0 w g N i f b L 0 0 L) := ⟨ho, by simp [S], fun _ _ => rfl, hbel⟩
  clear ho hbel
  go_enter Tryz.func94, Tryz.ntmps94
  go_wp2
  go_loopw [7, 8, 9, 12] (fun cv _ _ iv wr => ∃ (k cr : Nat) (L' : List Nat), k ≤ m ∧ cr < 4294967296 ∧ iv = .int .i64 k ∧ cv = .int .u64 cr ∧ Hid (TimesAt w0 wr g N i f b L k cr L')) (fun _ _ _ iv _ => m - (intOf iv).toNat)
  case atStart => exact ⟨0, 0, L, by omega, by omega, rfl, rfl, HST⟩
  case round =>
    obtain ⟨k, cr, L', hk, hcr, rfl, rfl, HA⟩ := hrel
    by_cases h0 : k < m
    · have hb1 := hb0.below HA.out.below
      have hu := hb0.l32 k
      have hs := HA.out.own.l32 (i + k)
      obtain ⟨b', off, rfl, h1, h2, hc⟩ := hb1.mem (by omega)
      have hcb := hc k h0
      obtain ⟨b2, off2, hA, h3, h4, hc2⟩ := HA.out.own.row.mem (by omega)
      injection hA with hA
      injection hA with e1 e2
      subst e1 e2
      have hcs := hc2 (i + k) (by omega)
      rw [Nat.zero_add] at hcs
      have hfs := HA.out.own.own.frozenAt (i + k)
      have STEP := Lib.hid (HA.out.step (by omega) hg)
      have hp : dg b k * f ≤ 18446744065119617025 := Nat.le_trans (Nat.mul_le_mul (Nat.le_sub_one_of_lt hu) (Nat.le_sub_one_of_lt hf)) (by decide)
      clear hc hc2 HST HA hb1 hb0
      go_wp2
      go_roundw
      case rel => exact ⟨k + 1, (cr + (dg b k * f + dg L' (i + k))) / 4294967296, _, by omega, by omega, by go_num, by go_num, STEP⟩
      case measure => simp [intOf]; omega
    · have hkm : k = m := by omega
      subst hkm
      go_wp2
      go_ret
      exact ⟨cr, L', ret_int (by omega), hcr, HA.out⟩
end Go.Proofs.YtffnjdfmaebmhaaGreatDoor
