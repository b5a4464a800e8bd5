/-
  The program's Mul, and the known carry.
-/
import Derived.Test.YtffnjdfmaebmhaaGreatDoorMul
namespace Go.Proofs.YtffnjdfmaebmhaaGreatDoor
set_option maxRecDepth 20000
open Go.RowKit

theorem dg_replicate (n j : Nat) : dg (List.replicate n 0) j = 0 := by
  rw [dg_eq, List.getElem?_replicate]; split <;> rfl
theorem val_replicate (n : Nat) : val (List.replicate n 0) = 0 := by
  induction n with
  | zero => rfl
  | succ n ih => rw [List.replicate_succ, val, ih]

structure MulAt (w wr : World) (g N m : Nat) (a b : List Nat) (i : Nat) (L : List Nat) : Prop where
  own : Own wr w.heap.size (some ⟨g, 0, none⟩) N N L
  sum : val L = S (fun j => dg a j) i * val b
  rest : ∀ j, i + m ≤ j → dg L j = 0
  below : Below w.heap.size w wr

theorem MulAt.step {w wr w1 : World} {g N m : Nat} {a b : List Nat} {i : Nat} {L L' : List Nat} {cr : Nat} (h : MulAt w wr g N m a b i L) (hb : b.length = m) (hi : i + m < N) (hg : w.heap.size ≤ g) (hcr : cr < 4294967296)
    (ht : TimesAt w w1 g N i (dg a i) b L m cr L') :
    MulAt w (w1.setCell ⟨g, i + m, none⟩ (.int .u32 (cr : Int))) g N m a b (i + 1) (L'.set (i + m) cr) := by
  have hz : dg L' (i + m) = 0 := (ht.rest _ (Nat.le_refl _)).trans (h.rest _ (Nat.le_refl _))
  refine ⟨ht.own.set hcr, ?_, ?_, ht.below.setCell hg _⟩
  · have h1 := val_set L' (i + m) cr (by rw [ht.own.len]; exact hi)
    rw [hz, Nat.mul_zero, Nat.add_zero] at h1
    have h2 := ht.sum
    rw [S_more b m (by omega)] at h2
    rw [h1, h2, h.sum, S, Nat.add_mul, Nat.mul_assoc]
  · intro j hj
    rw [dg_set_ne _ _ _ _ (by omega), ht.rest _ (by omega)]
    exact h.rest _ (by omega)

set_option maxHeartbeats 800000 in
theorem Mul_any (A B : Option Addr) (n m c d : Nat) (a b : List Nat) (w : World) (hn : n ≤ 100000) (hm : m ≤ 100000) (hcn : n ≤ c) (hdm : m ≤ d) (ha : Row w 0 A n a) (hb : Row w 0 B m b) :
    Calls Tryz.prog 68 #[.slice A n c, .slice B m d] w fun e w' => ∃ A2 c2, e = .returned (.slice A2 (lim (val a * val b)).length c2) ∧ Own w' w.heap.size A2 c2 (lim (val a * val b)).length (lim (val a * val b)) ∧ Below w.heap.size w w' := by
  obtain ⟨i0, hi, hz0, hz1, hz2⟩ := info_parts Tryz.info74
  have hla := ha.lim
  have hlb := hb.lim
  have hna : (lim (val a)).length ≤ n := by have := lim_len_le ha.l32; have := ha.len; omega
  have hnb : (lim (val b)).length ≤ m := by have := lim_len_le hb.l32; have := hb.len; omega
  have E : Hid (val (lim (val a)) * val (lim (val b)) = val a * val b) := by show _ = _; rw [val_lim, val_lim]
  go_enter Tryz.func68, Tryz.ntmps68
  go_wp2_with fail
  refine (head_any A n c a _ (by omega) hcn ha).mono ?_
  rintro e w' ⟨rfl, rfl⟩
  go_wp2_with fail
  refine (head_any B m d b _ (by omega) hdm hb).mono ?_
  rintro e w' ⟨rfl, rfl⟩
  clear ha hb
  go_wp2_with (at_make; refine wpList_make_full _ rfl _ _ _ rfl w.heap.size 74 i0 (.int .u32 0) 1 Tryz.underlying23 hi hz0 hz1 .i64 .i64 _ _ ((lim (val a)).length + (lim (val b)).length) rfl rfl ?c4 ?c5 ?c1 ?c2 ?c3 ?_)
  case c4 => omega
  case c5 => omega
  case c1 => rw [hz2]; omega
  case c2 => unfold maxLen; omega
  case c3 => exact Nat.le_refl _
  intro w1 ho hg
  have HST : Hid (MulAt w w1 w.heap.size ((lim (val a)).length + (lim (val b)).length) (lim (val b)).length (lim (val a)) (lim (val b)) 0 (List.replicate ((lim (val a)).length + (lim (val b)).length) 0)) :=
    ⟨Own.made ho, by rw [val_replicate]; simp [S], fun j _ => dg_replicate _ j, below_of_grown hg⟩
  clear ho hg
  go_wp2
  go_loopw [6, 7, 20] (fun _ _ iv wr => ∃ (k : Nat) (L : List Nat), k ≤ (lim (val a)).length ∧ iv = .int .i64 k ∧ Hid (MulAt w wr w.heap.size ((lim (val a)).length + (lim (val b)).length) (lim (val b)).length (lim (val a)) (lim (val b)) k L)) (fun _ _ iv _ => (lim (val a)).length - (intOf iv).toNat)
  case atStart => exact ⟨0, _, by omega, rfl, HST⟩
  case round =>
    obtain ⟨k, L, hk, rfl, HA⟩ := hrel
    by_cases h0 : k < (lim (val a)).length
    · have ha1 := hla.below HA.out.below
      have hu := hla.l32 k
      have hcp : ¬ (lim (val a)).length + (lim (val b)).length = k := by omega
      obtain ⟨b', off, rfl, h1, h2, hc⟩ := ha1.mem (by omega)
      have hcb := hc k h0
      clear hc HST ha1 hla
      go_wp2_with fail
      refine (addTimes_any w w.heap.size k (lim (val b)).length ((lim (val a)).length + (lim (val b)).length) _ _ (dg (lim (val a)) k) B (lim (val b)) L _ (Nat.le_refl _) (by omega) (by omega) (by omega) hu hlb HA.out.below HA.out.own).mono ?_
      rintro e w2 ⟨cr, L', rfl, hcr, ht⟩
      have STEP := Lib.hid (HA.out.step hlb.len (by omega) (Nat.le_refl _) hcr ht)
      obtain ⟨b2, off2, hA, h3, h4, hc2⟩ := ht.own.row.mem (by omega)
      injection hA with hA
      injection hA with e1 e2
      subst e1 e2
      have hcs := hc2 (k + (lim (val b)).length) (by omega)
      rw [Nat.zero_add] at hcs
      have hfs := ht.own.own.frozenAt (k + (lim (val b)).length)
      clear hc2 ht HA
      go_wp2
      go_roundw
      case rel => exact ⟨k + 1, _, by omega, by go_num, STEP⟩
      case measure => simp [intOf]; omega
    · have hkm : k = (lim (val a)).length := by omega
      have hrow := HA.out.own.row.lower (Nat.zero_le _)
      have hv : Hid (val L = val a * val b) := by
        show _ = _
        rw [HA.out.sum, S_more _ _ (by omega), val_lim, val_lim]
      have HO := Lib.hid HA.out.own.lim
      have hb3 := HA.out.below
      clear HA HST
      go_wp2_with fail
      refine (head_any _ _ _ L _ (by omega) (Nat.le_refl _) hrow).mono ?_
      rintro e w' ⟨rfl, rfl⟩
      go_wp2
      go_ret
      have HO2 := HO.out
      rw [hv.out] at HO2
      exact ⟨_, _, by rw [← hv.out]; rfl, HO2, hb3⟩
end Go.Proofs.YtffnjdfmaebmhaaGreatDoor
