/-
  The program's Add: both together.
-/
import Derived.Test.YtffnjdfmaebmhaaGreatDoorAdd
namespace Go.Proofs.YtffnjdfmaebmhaaGreatDoor
set_option maxRecDepth 20000
open Go.RowKit

theorem set_split {r L : List Nat} {k x : Nat} (hr : r.length = k) (hk : k < L.length) : (r ++ L.drop k).set k x = (r ++ [x]) ++ L.drop (k + 1) := by
  subst hr
  rw [List.set_append_right _ _ (Nat.le_refl _), Nat.sub_self, List.drop_eq_getElem_cons hk, List.set_cons_zero]
  simp
theorem dg_split {r L : List Nat} {k : Nat} (hr : r.length = k) : dg (r ++ L.drop k) k = dg L k := by
  subst hr
  rw [dg_eq, dg_eq, List.getElem?_append_right (Nat.le_refl _), Nat.sub_self, List.getElem?_drop, Nat.add_zero]
theorem dg_app0 (a : List Nat) (k : Nat) : dg (a ++ [0]) k = dg a k := by
  rw [dg_eq, dg_eq, List.getElem?_append]
  split
  · rfl
  · rename_i h
    rw [List.getElem?_eq_none (l := a) (by omega)]
    rcases Nat.eq_zero_or_pos (k - a.length) with h0 | h0
    · rw [h0]; rfl
    · rw [List.getElem?_eq_none (by simp; omega)]

/-- What the loop keeps: k digits are made, the rest is a's, and a nought. -/
structure NAddAt (w wr : World) (a b : List Nat) (n k c g : Nat) (r : List Nat) : Prop where
  len : r.length = k
  own : Own wr w.heap.size (some ⟨g, 0, none⟩) (n + 1) (n + 1) (r ++ (a ++ [0]).drop k)
  sum : val r + 4294967296 ^ k * c = S (fun i => dg a i) k + S (fun i => dg b i) k
  below : Below w.heap.size w wr

theorem NAddAt.step {w wr : World} {a b : List Nat} {n k c g : Nat} {r : List Nat} (h : NAddAt w wr a b n k c g r) (ha : a.length = n) (hk : k < n) (hg : w.heap.size ≤ g) :
    NAddAt w (wr.drew.setCell ⟨g, k, none⟩ (.int .u32 (((dg a k + dg b k + c) % 4294967296 : Nat) : Int))) a b n (k + 1) ((dg a k + dg b k + c) / 4294967296) g (r ++ [(dg a k + dg b k + c) % 4294967296]) := by
  refine ⟨by simp [h.len], ?_, ?_, h.below.drew.setCell hg _⟩
  · have h1 := h.own.drew.set (j := k) (x := (dg a k + dg b k + c) % 4294967296) (by omega)
    rw [set_split h.len (by simp; omega)] at h1
    exact h1
  · rw [val_snoc, h.len, S, S, Nat.pow_succ]
    exact add_step h.sum (by omega)

set_option maxHeartbeats 800000 in
theorem Add_any (A B : Option Addr) (n m c d : Nat) (a b : List Nat) (w : World) (hn : n ≤ 100000) (hm : m ≤ 100000) (hcn : n ≤ c) (hdm : m ≤ d) (ha : Row w 0 A n a) (hb : Row w 0 B m b) :
    Calls Tryz.prog 110 #[.slice A n c, .slice B m d] w fun e w' => ∃ A2 c2, e = .returned (.slice A2 (lim (val a + val b)).length c2) ∧ Own w' w.heap.size A2 c2 (lim (val a + val b)).length (lim (val a + val b)) ∧ Below w.heap.size w w' := by
  obtain ⟨i0, hi, hz0, hz1, hz2⟩ := info_parts Tryz.info74
  have hla := ha.lim
  have hlb := hb.lim
  have hna : (lim (val a)).length ≤ n := by have := lim_len_le ha.l32; have := ha.len; omega
  have hnb : (lim (val b)).length ≤ m := by have := lim_len_le hb.l32; have := hb.len; omega
  have H1 : Hid (∀ (X : Option Addr) (p : Nat), X = A ∧ p = c → True) := fun _ _ _ => trivial
  go_enter Tryz.func110, Tryz.ntmps110
  go_wp2_with fail
  refine (head_any A n c a _ (by omega) hcn ha).mono ?_
  rintro e w' ⟨rfl, rfl⟩
  go_wp2_with fail
  refine (head_any B m d b _ (by omega) hdm hb).mono ?_
  rintro e w' ⟨rfl, rfl⟩
  go_upto_if 16 with (fail)
  go_cut [0, 1] (fun v0 v1 wx => ∃ (X Y : Option Addr) (p q cx cy : Nat) (x y : List Nat), v0 = .slice X p cx ∧ v1 = .slice Y q cy ∧ q ≤ p ∧ p ≤ 100000 ∧ p ≤ cx ∧ q ≤ cy ∧ Row w 0 X p x ∧ Row w 0 Y q y ∧ Hid (val x + val y = val a + val b) ∧ w = wx)
  case first =>
    have e1 : Hid (val (lim (val a)) + val (lim (val b)) = val a + val b) := by show _ = _; rw [val_lim, val_lim]
    have e2 : Hid (val (lim (val b)) + val (lim (val a)) = val a + val b) := by show _ = _; rw [val_lim, val_lim, Nat.add_comm]
    by_cases hlt : (lim (val a)).length < (lim (val b)).length
    · go_wp2
      go_meet
      exact ⟨B, A, (lim (val b)).length, (lim (val a)).length, d, c, lim (val b), lim (val a), rfl, rfl, by omega, by omega, by omega, by omega, hlb, hla, e2, rfl⟩
    · go_wp2
      go_meet
      exact ⟨A, B, (lim (val a)).length, (lim (val b)).length, c, d, lim (val a), lim (val b), rfl, rfl, by omega, by omega, by omega, by omega, hla, hlb, e1, rfl⟩
  case rest =>
    clear ha hb hla hlb hna hnb H1
    obtain ⟨X, Y, p, q, cx, cy, x, y, rfl, rfl, hqp, hp, hpx, hqy, hx, hy, HE, rfl⟩ := hcut
    go_wp2_with (at_make; refine wpList_make_full _ rfl _ _ _ rfl w.heap.size 74 i0 (.int .u32 0) 1 Tryz.underlying23 hi hz0 hz1 .i64 .i64 _ _ (p + 1) rfl rfl ?c4 ?c5 ?c1 ?c2 ?c3 ?_)
    case c4 => omega
    case c5 => omega
    case c1 => rw [hz2]; omega
    case c2 => unfold maxLen; omega
    case c3 => exact Nat.le_refl _
    intro w1 ho hg
    have ho1 := Own.made ho
    clear ho
    have hx1 := hx.below (below_of_grown hg)
    have hy1 := hy.below (below_of_grown hg)
    have hb1 := below_of_grown hg
    clear hg
    go_wp2_with (refine wpl_copy rfl _ _ rfl rfl rfl ho1 hx1 (by omega) ?_)
    intro w2 ho2 hs2 hg2
    have HST : Hid (NAddAt w w2 x y p 0 0 w.heap.size []) := by
      have hxl := hx.len
      refine ⟨rfl, ?_, by simp [val, S], hb1.trans (below_of_grown_row hg2 (by simp) hb1.size)⟩
      have e : (p + 1 - p) = 1 := by omega
      simpa [e] using ho2
    clear ho2 hs2 hg2 hb1 hx1 hy1
    have hxl := Lib.hid hx.len
    go_wp2
    go_loopw [6, 7, 28] (fun cv _ i wr => ∃ (k cr : Nat) (r : List Nat), k ≤ p ∧ cr ≤ 1 ∧ i = .int .i64 k ∧ cv = .int .u32 cr ∧ Hid (NAddAt w wr x y p k cr w.heap.size r)) (fun _ _ i _ => p - (intOf i).toNat)
    case atStart => exact ⟨0, 0, [], by omega, by omega, rfl, rfl, HST⟩
    case round =>
      obtain ⟨k, cr, r, hk, hcr, rfl, rfl, HA⟩ := hrel
      by_cases h0 : k < p
      · have hy1 := hy.below HA.out.below
        have hxb := hx.l32 k
        have hyb := hy.l32 k
        obtain ⟨b, off, hA, h1, h2, hc⟩ := HA.out.own.row.mem (by omega)
        injection hA with hA
        injection hA with e1 e2
        subst e1 e2
        have hc0 := hc k (by omega)
        have e3 : dg (r ++ (x ++ [0]).drop k) k = dg x k := (dg_split HA.out.len).trans (dg_app0 x k)
        rw [e3, Nat.zero_add] at hc0
        have hf0 := HA.out.own.own.frozenAt k
        clear hc e3 h1
        have STEP := Lib.hid (HA.out.step hxl.out h0 (Nat.le_refl _))
        clear HST HA
        go_wp2
        go_region_with (first | (go_at_call 123; refine (limbAt_any Y q cy y k k _ (by omega) hy1.drew rfl).mono ?_; rintro e w' ⟨rfl, rfl⟩) | (go_at_call 122; refine (Add32_any (dg x k) (dg y k) cr _ (by omega) (by omega) (by omega)).mono ?_; rintro e w' ⟨rfl, rfl⟩))
        all_goals
          go_wp2
          go_roundw
          case rel => exact ⟨k + 1, (dg x k + dg y k + cr) / 4294967296, _, by omega, by omega, by go_num, rfl, STEP⟩
          case measure => simp [intOf]; omega
      · have hkp : k = p := by omega
        obtain ⟨b, off, hA, h1, h2, hc⟩ := HA.out.own.row.mem (by omega)
        injection hA with hA
        injection hA with e1 e2
        subst e1 e2
        have hc0 := hc k (by omega)
        rw [Nat.zero_add] at hc0
        have hf0 := HA.out.own.own.frozenAt k
        clear hc h1
        have HO := HA.out.own.set (j := k) (x := cr) (by omega)
        rw [set_split HA.out.len (by have := hxl.out; simp; omega)] at HO
        have hv : Hid (val (r ++ [cr] ++ (x ++ [0]).drop (k + 1)) = val a + val b) := by
          show _ = _
          have hd : (x ++ [0]).drop (k + 1) = [] := List.drop_eq_nil_of_le (by have := hxl.out; simp; omega)
          rw [hd, List.append_nil, val_snoc, HA.out.len]
          have hs := HA.out.sum
          rw [S_more _ _ (by have := hxl.out; omega), S_more _ _ (by have := hy.len; omega)] at hs
          rw [hs]; exact HE.out
        have hb3 := HA.out.below.setCell (p := ⟨w.heap.size, k, none⟩) (Nat.le_refl _) (.int .u32 (cr : Int))
        have hrow := HO.row.lower (Nat.zero_le _)
        have HO1 := Lib.hid HO.lim
        clear HO HST HA hy
        generalize r ++ [cr] ++ (x ++ [0]).drop (k + 1) = z at *
        have hkk : p = k := by omega
        subst hkk
        go_wp2_with fail
        refine (head_any _ (p + 1) (p + 1) z _ (by omega) (Nat.le_refl _) hrow).mono ?_
        rintro e w' ⟨rfl, rfl⟩
        go_wp2
        go_ret
        have HO2 := HO1.out
        rw [hv.out] at HO2
        exact ⟨_, _, by rw [← hv.out]; rfl, HO2, hb3⟩
end Go.Proofs.YtffnjdfmaebmhaaGreatDoor
