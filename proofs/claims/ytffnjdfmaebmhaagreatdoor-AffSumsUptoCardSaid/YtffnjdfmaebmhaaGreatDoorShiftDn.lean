/-
  A shift to the right.
-/
import Derived.Test.YtffnjdfmaebmhaaGreatDoorShiftUp
import Derived.Test.YtffnjdfmaebmhaaGreatDoorRMul
namespace Go.Proofs.YtffnjdfmaebmhaaGreatDoor
set_option maxRecDepth 20000
open Go.RowKit

structure ShDnAt (w wr : World) (g N : Nat) (e : List Nat) (t k : Nat) (L : List Nat) : Prop where
  own : Own wr w.heap.size (some ⟨g, 0, none⟩) N N L
  dig : ∀ j, j < k → dg L j = dn t (dg e j) (dg e (j + 1))
  below : Below w.heap.size w wr

theorem ShDnAt.step {w wr : World} {g N : Nat} {e : List Nat} {t k : Nat} {L : List Nat} (h : ShDnAt w wr g N e t k L) (hk : k < N) (hg : w.heap.size ≤ g) :
    ShDnAt w (wr.setCell ⟨g, k, none⟩ (.int .u32 ((dn t (dg e k) (dg e (k + 1)) : Nat) : Int))) g N e t (k + 1) (L.set k (dn t (dg e k) (dg e (k + 1)))) := by
  refine ⟨h.own.set (dn_lt _ _ _), fun j hj => ?_, h.below.setCell hg _⟩
  by_cases hjk : j = k
  · subst hjk; rw [dg_set_eq _ _ _ (by rw [h.own.len]; exact hk)]
  · rw [dg_set_ne _ _ _ _ (by omega)]; exact h.dig j (by omega)

theorem down_zero {a : List Nat} {s t : Nat} (ha : L32 a) (hs : a.length ≤ s) : val a / 2 ^ (32 * s + t) = 0 := by
  refine Nat.div_eq_of_lt ?_
  rw [← pow_32]
  have h1 := val_lt ha
  have h2 : 4294967296 ^ a.length ≤ 4294967296 ^ s := Nat.pow_le_pow_right (by omega) hs
  have h3 : 4294967296 ^ s * 1 ≤ 4294967296 ^ s * 2 ^ t := Nat.mul_le_mul_left _ (pow_pos2 t)
  omega
theorem down_val {a r : List Nat} {s t : Nat} (ha : L32 a) (ht : t < 32) (hs : s ≤ a.length) (hlen : r.length = a.length - s) (hr : ∀ j, j < r.length → dg r j = dn t (dg (a.drop s) j) (dg (a.drop s) (j + 1))) : val r = val a / 2 ^ (32 * s + t) := by
  rw [down_end ht (ha.drop s) (by simp; omega) hr, val_drop a s ha hs, Nat.div_div_eq_div_mul, pow_32]

theorem dn_int {x y t : Nat} (hx : x < 4294967296) (hy : y < 4294967296) : bits BinOp.or IntKind.u64 ((y : Int) * 4294967296) (x : Int) / 2 ^ t % 4294967296 = ((dn t x y : Nat) : Int) := by
  have e : (y : Int) * 4294967296 = ((y * 4294967296 : Nat) : Int) := by omega
  rw [e, u64_or_nat _ _ (by omega) (by omega), nat_join 32 _ x (by show y * 4294967296 % 4294967296 = 0; omega) hx]
  rfl

set_option maxHeartbeats 400000 in
theorem shiftDown_none (A : Option Addr) (n c : Nat) (a : List Nat) (h : Nat) (w : World) (hn : n ≤ 100000) (hh : h ≤ 4096) (ha : Row w 0 A n a) (hs : n ≤ h / 32) :
    Calls Tryz.prog 130 #[.slice A n c, .int .i64 (h : Int)] w fun e w' => ∃ A2 c2, e = .returned (.slice A2 (lim (val a / 2 ^ h)).length c2) ∧ Own w' w.heap.size A2 c2 (lim (val a / 2 ^ h)).length (lim (val a / 2 ^ h)) ∧ Below w.heap.size w w' := by
  have hz : Hid (lim (val a / 2 ^ h) = []) := by
    show _ = _
    have := down_zero (t := h % 32) ha.l32 (s := h / 32) (by rw [ha.len]; exact hs)
    rw [show 32 * (h / 32) + h % 32 = h by omega] at this
    rw [this, lim_zero]
  clear ha
  go_enter Tryz.func130, Tryz.ntmps130
  go_wp2
  go_ret
  rw [hz.out]
  exact ⟨none, 0, rfl, Own.nil_ _ _, Below.refl _ _⟩

set_option maxHeartbeats 800000 in
theorem shiftDown_some (A : Option Addr) (n c : Nat) (a : List Nat) (h : Nat) (w : World) (hn : n ≤ 100000) (hh : h ≤ 4096) (ha : Row w 0 A n a) (hs : h / 32 < n) :
    Calls Tryz.prog 130 #[.slice A n c, .int .i64 (h : Int)] w fun e w' => ∃ A2 c2, e = .returned (.slice A2 (lim (val a / 2 ^ h)).length c2) ∧ Own w' w.heap.size A2 c2 (lim (val a / 2 ^ h)).length (lim (val a / 2 ^ h)) ∧ Below w.heap.size w w' := by
  obtain ⟨i0, hi, hz0, hz1, hz2⟩ := info_parts Tryz.info74
  obtain ⟨s, t, hst⟩ : ∃ s t, h = 32 * s + t ∧ t < 32 := ⟨h / 32, h % 32, by omega, by omega⟩
  have ht := hst.2
  have hq : (h : Int) / 32 = (s : Int) := by omega
  have hr : (h : Int) % 32 = (t : Int) := by omega
  have hsn : s < n := by omega
  obtain ⟨N, hN⟩ : ∃ N, n = s + N := ⟨n - s, by omega⟩
  have HST := Lib.hid hst.1
  have HNS := Lib.hid hN
  have hN1 : n ≤ s + N := by omega
  have hN2 : s + N ≤ n := by omega
  have hsub : (n : Int) - (s : Int) = (N : Int) := by omega
  clear hst hs hN
  go_enter Tryz.func130, Tryz.ntmps130
  go_wp2_with (at_make; refine wpList_make_full _ rfl _ _ _ rfl w.heap.size 74 i0 (.int .u32 0) 1 Tryz.underlying23 hi hz0 hz1 .i64 .i64 _ _ N rfl rfl ?c4 ?c5 ?c1 ?c2 ?c3 ?_)
  case c4 => omega
  case c5 => omega
  case c1 => rw [hz2]; omega
  case c2 => unfold maxLen; omega
  case c3 => exact Nat.le_refl _
  intro w1 ho hg
  have HS0 : Hid (ShDnAt w w1 w.heap.size N (a.drop s) t 0 (List.replicate N 0)) :=
    ⟨Own.made ho, fun j hj => absurd hj (by omega), below_of_grown hg⟩
  clear ho hg
  go_wp2
  go_loopw [8, 9, 25] (fun _ _ iv wr => ∃ (k : Nat) (L : List Nat), k ≤ N ∧ iv = .int .i64 k ∧ Hid (ShDnAt w wr w.heap.size N (a.drop s) t k L)) (fun _ _ iv _ => N - (intOf iv).toNat)
  case atStart => exact ⟨0, _, by omega, rfl, HS0⟩
  case round =>
    obtain ⟨k, L, hk, rfl, HA⟩ := hrel
    by_cases h0 : k < N
    · have ha1 := ha.below HA.out.below
      have hx := ha.l32 (s + k)
      have hy := ha.l32 (s + k + 1)
      have HN : Hid (∀ (q : Nat) (v : Int), v = ((dn t (dg a (s + k)) (dg a (s + k + 1)) : Nat) : Int) → ShDnAt w ((wr.drewN q).setCell ⟨w.heap.size, k, none⟩ (.int .u32 v)) w.heap.size N (a.drop s) t (k + 1) (L.set k (dn t (dg a (s + k)) (dg a (s + k + 1))))) := by
        intro q v hv
        have h1 : ShDnAt w (wr.drewN q) w.heap.size N (a.drop s) t k L := ⟨HA.out.own.drewN q, HA.out.dig, HA.out.below.trans (below_drewN' _ _ _)⟩
        have h2 := h1.step h0 (Nat.le_refl _)
        rw [dg_drop, dg_drop, ← Nat.add_assoc] at h2
        rw [hv]; exact h2
      obtain ⟨b', off, rfl, h1, h2, hc⟩ := ha1.mem (by omega)
      have hcb := hc (s + k) (by omega)
      obtain ⟨b2, off2, hA, h3, h4, hc2⟩ := HA.out.own.row.mem (by omega)
      injection hA with hA
      injection hA with e1 e2
      subst e1 e2
      have hcs := hc2 k (by omega)
      rw [Nat.zero_add] at hcs
      have hfs := HA.out.own.own.frozenAt k
      have hb5 : s + k < n := by omega
      clear hc hc2 HA HS0 ha
      go_wp2
      go_quiet ((go_at_call 123; exact qleft (limbAt_any _ n c a _ (s + k + 1) _ (by omega) (ha1.drewN _) (by omega))))
      go_wp2
      go_roundw
      case rel => exact ⟨k + 1, _, by omega, by go_num, HN.out _ _ (dn_int hx hy)⟩
      case measure => simp [intOf]; omega
    · have E1 : Hid (val L = val a / 2 ^ h) := by
        show _ = _
        have := down_val ha.l32 ht (s := s) (r := L) (by rw [ha.len]; omega) (by rw [HA.out.own.len, ha.len]; omega) (fun j hj => HA.out.dig j (by have := HA.out.own.len; omega))
        rw [this, HST.out]
      have hrow := HA.out.own.row.lower (Nat.zero_le _)
      have HO := Lib.hid HA.out.own.lim
      have hb3 := HA.out.below
      clear HA HS0
      go_wp2_with fail
      refine (head_any _ _ _ L _ (by omega) (Nat.le_refl _) hrow).mono ?_
      rintro e w' ⟨rfl, rfl⟩
      go_wp2
      go_ret
      have HO2 := HO.out
      rw [E1.out] at HO2
      exact ⟨_, _, by rw [← E1.out]; rfl, HO2, hb3⟩

theorem shiftDown_any (A : Option Addr) (n c : Nat) (a : List Nat) (h : Nat) (i : Int) (w : World) (hi : i = (h : Int)) (hn : n ≤ 100000) (hh : h ≤ 4096) (ha : Row w 0 A n a) :
    Calls Tryz.prog 130 #[.slice A n c, .int .i64 i] w fun e w' => ∃ A2 c2, e = .returned (.slice A2 (lim (val a / 2 ^ h)).length c2) ∧ Own w' w.heap.size A2 c2 (lim (val a / 2 ^ h)).length (lim (val a / 2 ^ h)) ∧ Below w.heap.size w w' := by
  subst hi
  by_cases hs : h / 32 < n
  · exact shiftDown_some A n c a h w hn hh ha hs
  · exact shiftDown_none A n c a h w hn hh ha (by omega)
end Go.Proofs.YtffnjdfmaebmhaaGreatDoor
