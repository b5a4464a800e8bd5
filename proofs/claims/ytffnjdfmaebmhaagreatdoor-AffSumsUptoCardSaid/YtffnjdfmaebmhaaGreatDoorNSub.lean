/-
  One less the other: the program's way.
-/
import Derived.Test.YtffnjdfmaebmhaaGreatDoorSub
import Derived.Test.YtffnjdfmaebmhaaGreatDoorSub32
import Derived.Test.YtffnjdfmaebmhaaGreatDoorNAdd
namespace Go.Proofs.YtffnjdfmaebmhaaGreatDoor
set_option maxRecDepth 20000
open Go.RowKit

/-- What the loop keeps: k digits of the difference are made, the rest is a's. -/
structure NSubAt (w wr : World) (a b : List Nat) (n k c g : Nat) (r : List Nat) : Prop where
  len : r.length = k
  own : Own wr w.heap.size (some ⟨g, 0, none⟩) n n (r ++ a.drop k)
  sum : val r + S (fun i => dg b i) k = S (fun i => dg a i) k + 4294967296 ^ k * c
  below : Below w.heap.size w wr

theorem NSubAt.step {w wr : World} {a b : List Nat} {n k c g : Nat} {r : List Nat} (h : NSubAt w wr a b n k c g r) (ha : a.length = n) (hk : k < n) (hg : w.heap.size ≤ g) (hx : dg a k < 4294967296) (hy : dg b k < 4294967296) (hc : c ≤ 1) :
    NSubAt w (wr.drew.setCell ⟨g, k, none⟩ (.int .u32 ((dif (dg a k) (dg b k) c : Nat) : Int))) a b n (k + 1) (bor (dg a k) (dg b k) c) g (r ++ [dif (dg a k) (dg b k) c]) := by
  obtain ⟨h1, h2, _⟩ := dif_bor hx hy hc
  refine ⟨by simp [h.len], ?_, ?_, h.below.drew.setCell hg _⟩
  · have h3 := h.own.drew.set (j := k) h2
    rw [set_split h.len (by omega)] at h3
    exact h3
  · rw [val_snoc, h.len, S, S, Nat.pow_succ]
    exact sub_step h.sum h1

set_option maxHeartbeats 400000 in
theorem Sub_no (A B : Option Addr) (n m c d : Nat) (a b : List Nat) (w : World) (hn : n ≤ 100000) (hm : m ≤ 100000) (hcn : n ≤ c) (hdm : m ≤ d) (ha : Row w 0 A n a) (hb : Row w 0 B m b) (hlt : val a < val b) :
    Calls Tryz.prog 111 #[.slice A n c, .slice B m d] w fun e w' => e = .returned (.tuple #[.slice none 0 0, .bool false]) ∧ Below w.heap.size w w' := by
  have hc := Cmp_any A B n m c d a b w (by omega) (by omega) hcn hdm ha hb
  rw [cmpI_lt hlt] at hc
  have HC := Lib.hid hc
  clear hc ha hb hlt
  go_enter Tryz.func111, Tryz.ntmps111
  go_wp2_with fail
  refine HC.out.mono ?_
  rintro e w' ⟨rfl, q, rfl⟩
  go_wp2
  go_ret2
  exact ⟨rfl, below_drewN _ _ _⟩

set_option maxHeartbeats 800000 in
theorem Sub_yes (A B : Option Addr) (n m c d : Nat) (a b : List Nat) (w : World) (hn : n ≤ 100000) (hm : m ≤ 100000) (hcn : n ≤ c) (hdm : m ≤ d) (ha : Row w 0 A n a) (hb : Row w 0 B m b) (hle : val b ≤ val a) :
    Calls Tryz.prog 111 #[.slice A n c, .slice B m d] w fun e w' => ∃ A2 c2, e = .returned (.tuple #[.slice A2 (lim (val a - val b)).length c2, .bool true]) ∧ Own w' w.heap.size A2 c2 (lim (val a - val b)).length (lim (val a - val b)) ∧ Below w.heap.size w w' := by
  have hna : (lim (val a)).length ≤ n := by have := lim_len_le ha.l32; have := ha.len; omega
  have hnb : (lim (val b)).length ≤ m := by have := lim_len_le hb.l32; have := hb.len; omega
  have hc : ∃ s : Int, 0 ≤ s ∧ s ≤ 1 ∧ Calls Tryz.prog 57 #[.slice A n c, .slice B m d] w fun e w' => e = .returned (.int .i64 s) ∧ ∃ q, w' = w.drewN q := by
    refine ⟨_, ?_, ?_, Cmp_any A B n m c d a b w (by omega) (by omega) hcn hdm ha hb⟩
    · unfold cmpI; rw [if_neg (by omega)]; split <;> omega
    · unfold cmpI; rw [if_neg (by omega)]; split <;> omega
  obtain ⟨s, hs0, hs1, hc⟩ := hc
  have HC := Lib.hid hc
  have HLE := Lib.hid hle
  have hbw := hb.lim
  clear hc hle
  go_enter Tryz.func111, Tryz.ntmps111
  go_wp2_with fail
  refine HC.out.mono ?_
  rintro e w0 ⟨rfl, q0, hw0⟩
  have hb00 : Below w.heap.size w w0 := by rw [hw0]; exact below_drewN _ _ _
  have hz0 := hb00.size
  replace ha := ha.below hb00
  replace hb := hb.below hb00
  clear hw0 HC
  go_wp2_with fail
  refine (head_any B m d b _ (by omega) hdm hb).mono ?_
  rintro e w' ⟨rfl, rfl⟩
  go_wp2_with fail
  refine (Trim_any A n c a _ (by omega) hcn ha).mono ?_
  rintro e w1 ⟨g, rfl, ho, hb1⟩
  have hg0 := ho.own.lt g rfl
  have HST : Hid (NSubAt w w1 (lim (val a)) (lim (val b)) (lim (val a)).length 0 0 g []) := ⟨rfl, by simpa using ho.lower hz0, by simp [val, S], hb00.trans (hb1.mono hz0)⟩
  have hgw : w.heap.size ≤ g := by omega
  clear ho hb1 ha hb hg0
  clear hb00
  go_wp2
  go_loopw [7, 8, 19] (fun cv _ i wr => ∃ (k cr : Nat) (r : List Nat), k ≤ (lim (val a)).length ∧ cr ≤ 1 ∧ i = .int .i64 k ∧ cv = .int .u32 cr ∧ Hid (NSubAt w wr (lim (val a)) (lim (val b)) (lim (val a)).length k cr g r)) (fun _ _ i _ => (lim (val a)).length - (intOf i).toNat)
  case atStart => exact ⟨0, 0, [], by omega, by omega, rfl, rfl, HST⟩
  case round =>
    obtain ⟨k, cr, r, hk, hcr, rfl, rfl, HA⟩ := hrel
    have hxl : Hid ((lim (val a)).length = (lim (val a)).length) := rfl
    by_cases h0 : k < (lim (val a)).length
    · have hy1 := hbw.below HA.out.below
      have hxa := L32_lim (val a) k
      have hyb := L32_lim (val b) k
      obtain ⟨b', off, hA, h1, h2, hc⟩ := HA.out.own.row.mem (by omega)
      injection hA with hA
      injection hA with e1 e2
      subst e1 e2
      have hc0 := hc k (by omega)
      rw [dg_split HA.out.len, Nat.zero_add] at hc0
      have hf0 := HA.out.own.own.frozenAt k
      clear hc h1
      have STEP := Lib.hid (HA.out.step rfl h0 hgw hxa hyb hcr)
      have hcr2 : bor (dg (lim (val a)) k) (dg (lim (val b)) k) cr ≤ 1 := (dif_bor hxa hyb hcr).2.2
      clear HST HA
      go_wp2
      go_region_with (first | (go_at_call 123; refine (limbAt_any B (lim (val b)).length d (lim (val b)) k k _ (by omega) hy1.drew rfl).mono ?_; rintro e w' ⟨rfl, rfl⟩) | (go_at_call 124; refine (Sub32_any (dg (lim (val a)) k) (dg (lim (val b)) k) cr _ (by omega) (by omega) (by omega)).mono ?_; rintro e w' ⟨rfl, rfl⟩))
      all_goals
        go_wp2
        go_roundw
        case rel => exact ⟨k + 1, bor (dg (lim (val a)) k) (dg (lim (val b)) k) cr, _, by omega, by omega, by go_num, rfl, STEP⟩
        case measure => simp [intOf]; omega
    · have hkp : k = (lim (val a)).length := by omega
      have hown := HA.out.own
      have hd : (lim (val a)).drop k = [] := List.drop_eq_nil_of_le (by omega)
      rw [hd, List.append_nil] at hown
      have E1 : Hid (val r = val a - val b) := by
        show _ = _
        have h := sub_end (a := lim (val a)) (b := lim (val b)) (L32_lim _) hown.row.l32 (by omega) HA.out.len (by rw [val_lim, val_lim]; exact HLE.out) HA.out.sum
        rwa [val_lim, val_lim] at h
      have hrow := hown.row.lower (Nat.zero_le _)
      have HO := Lib.hid hown.lim
      have hb3 := HA.out.below
      clear HA HST hown hd
      go_wp2_with fail
      refine (head_any _ _ _ r _ (by omega) (Nat.le_refl _) hrow).mono ?_
      rintro e w' ⟨rfl, rfl⟩
      go_wp2
      go_ret2
      have HO2 := HO.out
      rw [E1.out] at HO2
      exact ⟨_, _, by rw [← E1.out]; rfl, HO2, hb3⟩
end Go.Proofs.YtffnjdfmaebmhaaGreatDoor
