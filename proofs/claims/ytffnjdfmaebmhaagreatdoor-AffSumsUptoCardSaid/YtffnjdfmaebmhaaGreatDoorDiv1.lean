/-
  A row by one limb, in place.
-/
import Derived.Test.YtffnjdfmaebmhaaGreatDoorLong
namespace Go.Proofs.YtffnjdfmaebmhaaGreatDoor
set_option maxRecDepth 20000
open Go.RowKit

theorem div_cast {T y : Nat} (h : T / y < 4294967296) : (T : Int) / (y : Int) % 4294967296 = ((T / y : Nat) : Int) := by
  have e : (T : Int) / (y : Int) = ((T / y : Nat) : Int) := rfl
  rw [e]
  generalize T / y = q at *
  omega
theorem rem_cast {T y : Nat} (h : T % y < 4294967296) : (T : Int) % (y : Int) % 4294967296 = ((T % y : Nat) : Int) := by
  have e : (T : Int) % (y : Int) = ((T % y : Nat) : Int) := rfl
  rw [e]
  generalize T % y = q at *
  omega

set_option maxHeartbeats 800000 in
theorem Div32_any (h l y : Nat) (w : World) (hl : l < 4294967296) (hy : y < 4294967296) (hh : h < y) :
    Calls Tryz.prog 118 #[.int .u32 (h : Int), .int .u32 (l : Int), .int .u32 (y : Int)] w fun e w' => e = .returned (.tuple #[.int .u32 (((h * 4294967296 + l) / y : Nat) : Int), .int .u32 (((h * 4294967296 + l) % y : Nat) : Int)]) ∧ ∃ q, w' = w.drewN q := by
  have hor := or_step2 hl (show h < 4294967296 by omega)
  have hyn : ¬ (y : Int) = 0 := by omega
  have hyb : ((y : Int) != 0) = true := by rw [bne_iff_ne]; exact hyn
  have hd : decide (y ≤ h) = false := by rw [decide_eq_false_iff_not]; omega
  have hd2 : decide ((y : Int) ≤ (h : Int)) = false := by rw [decide_eq_false_iff_not]; omega
  have hT : h * 4294967296 + l < 18446744073709551616 := by omega
  have hq : (h * 4294967296 + l) / y < 4294967296 := by
    rw [Nat.div_lt_iff_lt_mul (by omega)]
    have : (h + 1) * 4294967296 ≤ y * 4294967296 := Nat.mul_le_mul_right _ hh
    rw [Nat.mul_comm]
    omega
  have hr : (h * 4294967296 + l) % y < 4294967296 := by
    have : (h * 4294967296 + l) % y < y := Nat.mod_lt _ (by omega)
    omega
  go_enter Tryz.func118, Tryz.ntmps118
  go_wp2
  go_quiet (fail)
  go_wp2
  go_ret2
  have ec : (h : Int) * 4294967296 + (l : Int) = ((h * 4294967296 + l : Nat) : Int) := by omega
  exact ⟨ret_int2 (by rw [ec]; exact div_cast hq) (by rw [ec]; exact rem_cast hr), _, rfl⟩

/-- What the loop keeps: k limbs are still to come, left is what stands. -/
structure ByAt (ws wr : World) (lo g c n : Nat) (l : List Nat) (b k left : Nat) (qs : List Nat) : Prop where
  own : Own wr lo (some ⟨g, 0, none⟩) c n (l.take k ++ qs)
  sum : val qs * b + left = val (l.drop k)
  less : left < b
  gr : ws.grownBy wr (some g)
theorem ByAt.step {ws wr : World} {lo g c n : Nat} {l : List Nat} {b k left : Nat} {qs : List Nat} (h : ByAt ws wr lo g c n l b (k + 1) left qs) (hk : k < l.length) (hb : 0 < b) (hq : (left * 4294967296 + dg l k) / b < 4294967296) (q : Nat) :
    ByAt ws ((wr.drewN q).setCell ⟨g, k, none⟩ (.int .u32 (((left * 4294967296 + dg l k) / b : Nat) : Int))) lo g c n l b k ((left * 4294967296 + dg l k) % b) ((left * 4294967296 + dg l k) / b :: qs) := by
  refine ⟨?_, ?_, Nat.mod_lt _ hb, grown_set ⟨h.gr.os, h.gr.tape, h.gr.output, h.gr.size, h.gr.block⟩⟩
  · have h1 := (h.own.drewN q).set (j := k) hq
    have e : (l.take (k + 1) ++ qs).set k ((left * 4294967296 + dg l k) / b) = l.take k ++ ((left * 4294967296 + dg l k) / b :: qs) := by
      have hl1 : (l.take k).length = k := by rw [List.length_take]; omega
      rw [List.take_succ_eq_append_getElem hk, List.append_assoc, List.set_append_right _ _ (by omega), hl1, Nat.sub_self]
      rfl
    rw [e] at h1
    exact h1
  · rw [val_cons_drop l k hk, ← h.sum, val, Nat.add_mul]
    have := Nat.div_add_mod (left * 4294967296 + dg l k) b
    rw [Nat.mul_comm b] at this
    have e2 : 4294967296 * val qs * b = 4294967296 * (val qs * b) := Nat.mul_assoc _ _ _
    rw [e2]
    omega

set_option maxHeartbeats 800000 in
theorem divideByLimb_any (lo g n c b : Nat) (l : List Nat) (w : World) (hn : n ≤ 100000) (hb : 0 < b) (hb2 : b < 4294967296) (ho : Own w lo (some ⟨g, 0, none⟩) c n l) :
    Calls Tryz.prog 108 #[.slice (some ⟨g, 0, none⟩) n c, .int .u32 (b : Int)] w fun e w' => ∃ l', e = .returned (.int .u32 ((val l % b : Nat) : Int)) ∧ Own w' lo (some ⟨g, 0, none⟩) c n l' ∧ val l' = val l / b ∧ w.grownBy w' (some g) := by
  have hlen := Lib.hid ho.len
  have hl32 := ho.l32
  have HST : Hid (ByAt w w lo g c n l b n 0 []) := by
    refine ⟨?_, ?_, hb, World.grownBy.refl _ _⟩
    · rw [List.take_of_length_le (Nat.le_of_eq hlen.out), List.append_nil]; exact ho
    · rw [List.drop_eq_nil_of_le (Nat.le_of_eq hlen.out)]; simp [val]
  clear ho
  go_enter Tryz.func108, Tryz.ntmps108
  go_wp2
  go_loopw [5, 6] (fun lv iv wr => ∃ (k left : Nat) (qs : List Nat), k ≤ n ∧ left < b ∧ iv = .int .i64 ((k : Int) - 1) ∧ lv = .int .u32 left ∧ Hid (ByAt w wr lo g c n l b k left qs)) (fun _ iv _ => (intOf iv + 1).toNat)
  case atStart => exact ⟨n, 0, [], by omega, hb, rfl, rfl, HST⟩
  case round =>
    obtain ⟨k, left, qs, hk, hleft, rfl, rfl, HA⟩ := hrel
    by_cases h0 : k = 0
    · subst h0
      have hs := HA.out.sum
      rw [List.drop_zero] at hs
      have ho := HA.out.own
      rw [List.take_zero, List.nil_append] at ho
      have E1 : Hid (val l % b = left) := by
        show _ = _
        rw [← hs, Nat.add_comm, Nat.add_mul_mod_self_right, Nat.mod_eq_of_lt hleft]
      have E2 : Hid (val qs = val l / b) := by
        show _ = _
        rw [← hs, Nat.add_comm, Nat.add_mul_div_right _ _ hb, Nat.div_eq_of_lt hleft, Nat.zero_add]
      have HO := Lib.hid ho
      have HG := Lib.hid HA.out.gr
      clear hs ho HA HST
      go_wp2
      go_ret
      exact ⟨qs, ret_int (by rw [E1.out]), HO.out, E2.out, HG.out⟩
    · obtain ⟨k, rfl⟩ : ∃ j, k = j + 1 := ⟨k - 1, by omega⟩
      have hkl : k < l.length := by have := hlen.out; omega
      have hx := hl32 k
      have hq : (left * 4294967296 + dg l k) / b < 4294967296 := by
        rw [Nat.div_lt_iff_lt_mul hb]
        have : (left + 1) * 4294967296 ≤ b * 4294967296 := Nat.mul_le_mul_right _ hleft
        rw [Nat.mul_comm]
        omega
      have hr : (left * 4294967296 + dg l k) % b < b := Nat.mod_lt _ hb
      have he1 : ((k + 1 : Nat) : Int) - 1 = (k : Int) := by omega
      simp only [he1]
      obtain ⟨b2, off2, hA2, h7, h8, hc2⟩ := HA.out.own.row.mem (by omega)
      injection hA2 with hA2
      injection hA2 with e1 e2
      subst e1 e2
      have hcs := hc2 k (by omega)
      have e3 : dg (l.take (k + 1) ++ qs) k = dg l k := by
        rw [dg_eq, dg_eq, List.getElem?_append_left (by simp; omega), List.getElem?_take]
        simp
      rw [Nat.zero_add, e3] at hcs
      have hfs := HA.out.own.own.frozenAt k
      have hkn : k < n := by omega
      have STEP := Lib.hid (fun q => HA.out.step hkl hb hq q)
      have HD := Lib.hid (fun (w : World) => Div32_any left (dg l k) b w hx hb2 hleft)
      clear hc2 HA HST e3 hkl he1
      go_wp2_with fail
      refine (HD.out _).mono ?_
      rintro e w2 ⟨rfl, q, rfl⟩
      have HS := Lib.hid (STEP.out q)
      clear STEP HD
      go_wp2
      go_roundw
      case rel => exact ⟨k, _, _, by omega, hr, rfl, rfl, HS⟩
      case measure => simp [intOf]
end Go.Proofs.YtffnjdfmaebmhaaGreatDoor
