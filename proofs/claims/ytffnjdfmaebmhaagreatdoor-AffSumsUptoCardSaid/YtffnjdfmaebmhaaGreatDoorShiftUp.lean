/-
  A shift to the left.
-/
import Derived.Test.YtffnjdfmaebmhaaGreatDoorShiftNum
import Derived.Test.YtffnjdfmaebmhaaGreatDoorNMul
namespace Go.Proofs.YtffnjdfmaebmhaaGreatDoor
set_option maxRecDepth 20000
open Go.RowKit

structure ShUpAt (w wr : World) (g N : Nat) (a : List Nat) (s t k : Nat) (L : List Nat) : Prop where
  own : Own wr w.heap.size (some ⟨g, 0, none⟩) N N L
  up : UpAt a s t k L
  below : Below w.heap.size w wr

set_option maxHeartbeats 800000 in
theorem shiftUp_any (A : Option Addr) (n c : Nat) (a : List Nat) (h : Nat) (w : World) (hn : n ≤ 100000) (hh : h ≤ 4096) (ha : Row w 0 A n a) :
    Calls Tryz.prog 131 #[.slice A n c, .int .i64 (h : Int)] w fun e w' => ∃ A2 c2, e = .returned (.slice A2 (lim (val a * 2 ^ h)).length c2) ∧ Own w' w.heap.size A2 c2 (lim (val a * 2 ^ h)).length (lim (val a * 2 ^ h)) ∧ Below w.heap.size w w' := by
  obtain ⟨i0, hi, hz0, hz1, hz2⟩ := info_parts Tryz.info74
  obtain ⟨s, t, hst⟩ : ∃ s t, h = 32 * s + t ∧ t < 32 := ⟨h / 32, h % 32, by omega, by omega⟩
  have ht := hst.2
  have hq : (h : Int) / 32 = (s : Int) := by omega
  have hr : (h : Int) % 32 = (t : Int) := by omega
  have HST := Lib.hid hst.1
  clear hst
  go_enter Tryz.func131, Tryz.ntmps131
  go_wp2_with (at_make; refine wpList_make_full _ rfl _ _ _ rfl w.heap.size 74 i0 (.int .u32 0) 1 Tryz.underlying23 hi hz0 hz1 .i64 .i64 _ _ (s + n + 1) rfl rfl ?c4 ?c5 ?c1 ?c2 ?c3 ?_)
  case c4 => omega
  case c5 => omega
  case c1 => rw [hz2]; omega
  case c2 => unfold maxLen; omega
  case c3 => exact Nat.le_refl _
  intro w1 ho hg
  have HS0 : Hid (ShUpAt w w1 w.heap.size (s + n + 1) a s t 0 (List.replicate (s + n + 1) 0)) :=
    ⟨Own.made ho, ⟨by rw [val_replicate]; simp [S], by rw [dg_replicate]; exact pow_pos2 t, fun j _ => dg_replicate _ j⟩, below_of_grown hg⟩
  clear ho hg
  go_wp2
  go_loopw [8, 9, 10, 23] (fun _ _ _ iv wr => ∃ (k : Nat) (L : List Nat), k ≤ n ∧ iv = .int .i64 k ∧ Hid (ShUpAt w wr w.heap.size (s + n + 1) a s t k L)) (fun _ _ _ iv _ => n - (intOf iv).toNat)
  case atStart => exact ⟨0, _, by omega, rfl, HS0⟩
  case round =>
    obtain ⟨k, L, hk, rfl, HA⟩ := hrel
    by_cases h0 : k < n
    · have ha1 := ha.below HA.out.below
      have hx := ha.l32 k
      obtain ⟨u1, u2, u3⟩ := HA.out.up.step (by rw [HA.out.own.len]; omega) hx ht
      have hlow := HA.out.own.l32 (s + k)
      have HO1 := HA.out.own.set (j := s + k) u2
      have hb1 := HA.out.below.setCell (p := ⟨w.heap.size, s + k, none⟩) (Nat.le_refl _) (.int .u32 ((dg L (s + k) ||| (dg a k * 2 ^ t % 4294967296) : Nat) : Int))
      have HN : Hid (ShUpAt w ((wr.setCell ⟨w.heap.size, s + k, none⟩ (.int .u32 ((dg L (s + k) ||| (dg a k * 2 ^ t % 4294967296) : Nat) : Int))).setCell ⟨w.heap.size, s + k + 1, none⟩ (.int .u32 ((dg a k * 2 ^ t / 4294967296 : Nat) : Int))) w.heap.size (s + n + 1) a s t (k + 1)
          ((L.set (s + k) (dg L (s + k) ||| (dg a k * 2 ^ t % 4294967296))).set (s + k + 1) (dg a k * 2 ^ t / 4294967296))) :=
        ⟨HO1.set u3, u1, hb1.setCell (Nat.le_refl _) _⟩
      obtain ⟨b', off, rfl, h1, h2, hc⟩ := ha1.mem (by omega)
      have hcb := hc k h0
      obtain ⟨b2, off2, hA, h3, h4, hc2⟩ := HA.out.own.row.mem (by omega)
      injection hA with hA
      injection hA with e1 e2
      subst e1 e2
      have hcs := hc2 (s + k) (by omega)
      have hcs2 := hc2 (s + k + 1) (by omega)
      rw [Nat.zero_add] at hcs hcs2
      have hfs := HA.out.own.own.frozenAt (s + k)
      have hfs2 := HA.out.own.own.frozenAt (s + k + 1)
      have hup := (up_low hx ht).1
      clear hc hc2 HA HS0 ha1 HO1 hb1 u1
      go_wp2
      go_roundw
      case rel => exact ⟨k + 1, _, by omega, by go_num, by rw [up_or hlow hup, up_hi hup]; exact HN⟩
      case measure => simp [intOf]; omega
    · have E1 : Hid (val L = val a * 2 ^ h) := by
        show _ = _
        rw [HA.out.up.sum, S_more a k (by rw [ha.len]; omega), HST.out, ← pow_32, Nat.mul_left_comm]
      have hrow := HA.out.own.row.lower (Nat.zero_le _)
      have HO := Lib.hid HA.out.own.lim
      have hb3 := HA.out.below
      clear HA HS0
      go_wp2_with fail
      refine (head_any _ _ _ L _ (by omega) (Nat.le_refl _) hrow).mono ?_
      rintro e w' ⟨rfl, rfl⟩
      go_wp2
      go_ret
      have HO2 := HO.out
      rw [E1.out] at HO2
      exact ⟨_, _, by rw [← E1.out]; rfl, HO2, hb3⟩
end Go.Proofs.YtffnjdfmaebmhaaGreatDoor
