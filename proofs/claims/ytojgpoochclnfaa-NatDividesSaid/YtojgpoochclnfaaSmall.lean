/-
  The document's small: a number by one limb, and what is left.
-/
import Derived.Test.YtojgpoochclnfaaDivMod
namespace Go.Proofs.Ytojgpoochclnfaa
open Go.RowKit

/-- What the loop of small keeps: k limbs are still to come. -/
structure SmAt (w wr : World) (g n : Nat) (l : List Nat) (b k left : Nat) (L : List Nat) : Prop where
  own : Own wr w.heap.size (some ⟨g, 0, none⟩) n n L
  sum : val (L.drop k) * b + left = val (l.drop k)
  less : left < b
  below : Below w.heap.size w wr
theorem SmAt.step {w wr : World} {g n : Nat} {l : List Nat} {b k left : Nat} {L : List Nat} (h : SmAt w wr g n l b (k + 1) left L) (hk : k < n) (hl : l.length = n) (hb : 0 < b) (hg : w.heap.size ≤ g) (hq : (left * 4294967296 + dg l k) / b < 4294967296) (v : Int) (hv : v = (((left * 4294967296 + dg l k) / b : Nat) : Int)) (q : Nat) :
    SmAt w ((wr.drewN q).setCell ⟨g, k, none⟩ (.int .u32 v)) g n l b k ((left * 4294967296 + dg l k) % b) (L.set k ((left * 4294967296 + dg l k) / b)) := by
  subst hv
  refine ⟨(h.own.drewN q).set hq, ?_, Nat.mod_lt _ hb, (h.below.trans (below_drewN' _ _ _)).setCell hg _⟩
  have hL := h.own.len
  rw [val_cons_drop l k (by omega), ← h.sum, val_cons_drop _ k (by rw [List.length_set]; omega), dg_set_eq _ _ _ (by omega), List.drop_set_of_lt (by omega), Nat.add_mul]
  have := Nat.div_add_mod (left * 4294967296 + dg l k) b
  rw [Nat.mul_comm b] at this
  have e2 : 4294967296 * val (L.drop (k + 1)) * b = 4294967296 * (val (L.drop (k + 1)) * b) := Nat.mul_assoc _ _ _
  rw [e2]
  omega

set_option maxHeartbeats 1600000 in
theorem small_any (A : Option Addr) (n c b : Nat) (l : List Nat) (w : World) (hn : n ≤ 100000) (hb : 0 < b) (hb2 : b < 4294967296) (ha : Row w 0 A n l) :
    Calls Try.prog 45 #[.slice A n c, .int .u64 (b : Int)] w fun e w' => ∃ A2 c2, e = .returned (.tuple #[.slice A2 (lim (val l / b)).length c2, .int .u64 ((val l % b : Nat) : Int)]) ∧ Own w' w.heap.size A2 c2 (lim (val l / b)).length (lim (val l / b)) ∧ Below w.heap.size w w' := by
  obtain ⟨i0, hi, hz0, hz1, hz2⟩ := info_parts Try.info41
  have hlen := Lib.hid ha.len
  go_enter Try.func45, Try.ntmps45
  go_wp2_with (at_make; refine wpList_make_full _ rfl _ _ _ rfl w.heap.size 41 i0 (.int .u32 0) 1 Try.underlying22 hi hz0 hz1 .i64 .i64 _ _ n rfl rfl ?c4 ?c5 ?c1 ?c2 ?c3 ?_)
  case c4 => omega
  case c5 => omega
  case c1 => rw [hz2]; omega
  case c2 => unfold maxLen; omega
  case c3 => exact Nat.le_refl _
  intro w1 ho hg
  have HST : Hid (SmAt w w1 w.heap.size n l b n 0 (List.replicate n 0)) := by
    refine ⟨Own.made ho, ?_, hb, below_of_grown hg⟩
    rw [List.drop_eq_nil_of_le (Nat.le_of_eq (by simp)), List.drop_eq_nil_of_le (Nat.le_of_eq hlen.out)]
    simp [val]
  clear ho hg
  go_wp2
  go_loopw [7, 8] (fun lv iv wr => ∃ (k left : Nat) (L : List Nat), k ≤ n ∧ left < b ∧ iv = .int .i64 ((k : Int) - 1) ∧ lv = .int .u64 left ∧ Hid (SmAt w wr w.heap.size n l b k left L)) (fun _ iv _ => (intOf iv + 1).toNat)
  case atStart => exact ⟨n, 0, _, by omega, hb, rfl, rfl, HST⟩
  case round =>
    obtain ⟨k, left, L, hk, hleft, rfl, rfl, HA⟩ := hrel
    by_cases h0 : k = 0
    · subst h0
      have hs := HA.out.sum
      rw [List.drop_zero, List.drop_zero] at hs
      have E1 : Hid (val l % b = left) := by
        show _ = _
        rw [← hs, Nat.add_comm, Nat.add_mul_mod_self_right, Nat.mod_eq_of_lt hleft]
      have E2 : Hid (val L = val l / b) := by
        show _ = _
        rw [← hs, Nat.add_comm, Nat.add_mul_div_right _ _ hb, Nat.div_eq_of_lt hleft, Nat.zero_add]
      have hrow := HA.out.own.row.lower (Nat.zero_le _)
      have HBL := Lib.hid HA.out.below
      clear hs HA HST
      go_wp2_with fail
      refine (rTrim_any _ n n L _ (by omega) (Nat.le_refl _) hrow).mono ?_
      rintro e w3 ⟨A3, c3, rfl, ho3, hb3⟩
      have HO := Lib.hid (ho3.lower HBL.out.size)
      have HB3 := Lib.hid (HBL.out.trans (hb3.mono HBL.out.size))
      clear ho3 hb3 hrow
      go_wp2
      go_ret2
      have HO2 := HO.out
      rw [E2.out] at HO2
      exact ⟨A3, c3, by rw [← E2.out, E1.out]; rfl, HO2, HB3.out⟩
    · obtain ⟨k, rfl⟩ : ∃ j, k = j + 1 := ⟨k - 1, by omega⟩
      have hx := ha.l32 k
      have hl32 : left < 4294967296 := by omega
      have hq : (left * 4294967296 + dg l k) / b < 4294967296 := by
        rw [Nat.div_lt_iff_lt_mul hb]
        have : (left + 1) * 4294967296 ≤ b * 4294967296 := Nat.mul_le_mul_right _ hleft
        rw [Nat.mul_comm]
        omega
      have hr : (left * 4294967296 + dg l k) % b < b := Nat.mod_lt _ hb
      have he1 : ((k + 1 : Nat) : Int) - 1 = (k : Int) := by omega
      simp only [he1]
      have hkn : k < n := by omega
      have hbn : ¬ (b : Int) = 0 := by omega
      have ha1 := ha.below HA.out.below
      obtain ⟨b', off, rfl, h1, h2, hc⟩ := ha1.mem (by omega)
      have hca := hc k hkn
      obtain ⟨b2, off2, hA2, h7, h8, hc2⟩ := HA.out.own.row.mem (by omega)
      injection hA2 with hA2
      injection hA2 with e1 e2
      subst e1 e2
      have hcs := hc2 k hkn
      rw [Nat.zero_add] at hcs
      have hfs := HA.out.own.own.frozenAt k
      have hor := or_step2 hx hl32
      have hT : left * 4294967296 + dg l k < 18446744073709551616 := by omega
      have ec : (left : Int) * 4294967296 + ((dg l k : Nat) : Int) = ((left * 4294967296 + dg l k : Nat) : Int) := by omega
      have STEP := Lib.hid (fun v hv q => HA.out.step hkn hlen.out hb (Nat.le_refl _) hq v hv q)
      have HDC := Lib.hid (div_cast hq)
      have EC := Lib.hid ec
      clear hc hc2 HA HST he1 ha ha1 ec
      go_wp2
      go_roundw
      case rel => exact ⟨k, (left * 4294967296 + dg l k) % b, _, by omega, hr, rfl, by rw [EC.out]; rfl, STEP.out _ (by rw [EC.out]; exact HDC.out) 0⟩
      case measure => simp [intOf]
end Go.Proofs.Ytojgpoochclnfaa
