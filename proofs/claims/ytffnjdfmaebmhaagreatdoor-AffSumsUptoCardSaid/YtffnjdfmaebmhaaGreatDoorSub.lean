/-
  One less the other: the document's way.
-/
import Derived.Test.YtffnjdfmaebmhaaGreatDoorRCmp
import Derived.Test.YtffnjdfmaebmhaaGreatDoorAdd
namespace Go.Proofs.YtffnjdfmaebmhaaGreatDoor
set_option maxRecDepth 20000
open Go.RowKit

/-- What a loop over two rows keeps: k digits of the difference are made. -/
structure SubAt (w wr : World) (a b : List Nat) (k c : Nat) (A : Option Addr) (cap : Nat) (r : List Nat) : Prop where
  own : Own wr w.heap.size A cap k r
  sum : val r + S (fun i => dg b i) k = S (fun i => dg a i) k + 4294967296 ^ k * c
  below : Below w.heap.size w wr

theorem SubAt.step {w wr wr' : World} {a b : List Nat} {k c c' : Nat} {A A' : Option Addr} {cap cap' : Nat} {r : List Nat} (h : SubAt w wr a b k c A cap r) {x : Nat}
    (hx : x + dg b k + c = dg a k + 4294967296 * c')
    (ho : Own wr' w.heap.size A' cap' (k + 1) (r ++ [x])) (hb : Below w.heap.size wr wr') : SubAt w wr' a b (k + 1) c' A' cap' (r ++ [x]) := by
  refine ⟨ho, ?_, h.below.trans hb⟩
  rw [val_snoc, h.own.len, S, S, Nat.pow_succ]
  exact sub_step h.sum hx

theorem S_le_val (l : List Nat) (k : Nat) : S (fun i => dg l i) k ≤ val l := by
  by_cases h : k ≤ l.length
  · rw [S_take, val_take_drop l k h]; omega
  · rw [S_more _ _ (by omega)]; exact Nat.le_refl _
theorem S_all {l : List Nat} {k : Nat} (h : val l < 4294967296 ^ k) : S (fun i => dg l i) k = val l := by
  by_cases hk : k ≤ l.length
  · have h1 := val_take_drop l k hk
    rw [S_take]
    rcases Nat.eq_zero_or_pos (val (l.drop k)) with h0 | h0
    · rw [h0] at h1; omega
    · have : 4294967296 ^ k * 1 ≤ 4294967296 ^ k * val (l.drop k) := Nat.mul_le_mul_left _ h0
      omega
  · exact S_more _ _ (by omega)
theorem sub_end {a b r : List Nat} {k c : Nat} (ha : L32 a) (hr : L32 r) (hk : a.length ≤ k) (hrk : r.length = k) (hle : val b ≤ val a)
    (hs : val r + S (fun i => dg b i) k = S (fun i => dg a i) k + 4294967296 ^ k * c) : val r = val a - val b := by
  have h1 := val_lt ha
  have h2 := val_lt hr
  rw [hrk] at h2
  have h3 : 4294967296 ^ a.length ≤ 4294967296 ^ k := Nat.pow_le_pow_right (by omega) hk
  rw [S_all (l := b) (by omega), S_more a k hk] at hs
  rcases Nat.eq_zero_or_pos c with h0 | h0
  · subst h0; omega
  · have : 4294967296 ^ k * 1 ≤ 4294967296 ^ k * c := Nat.mul_le_mul_left _ h0
    omega

set_option maxHeartbeats 400000 in
theorem rSub_no (A B : Option Addr) (n m c d : Nat) (a b : List Nat) (w : World) (hn : n ≤ 100000) (hm : m ≤ 100000) (hcn : n ≤ c) (hdm : m ≤ d) (ha : Row w 0 A n a) (hb : Row w 0 B m b) (hlt : val a < val b) :
    Calls Tryz.prog 67 #[.slice A n c, .slice B m d] w fun e w' => e = .returned (.tuple #[.slice none 0 0, .bool false]) ∧ Below w.heap.size w w' := by
  have hc := rCmp_any A B n m c d a b w (by omega) (by omega) hcn hdm ha hb
  rw [cmpI_lt hlt] at hc
  have HC := Lib.hid hc
  clear hc ha hb hlt
  go_enter Tryz.func67, Tryz.ntmps67
  go_wp2_with fail
  refine HC.out.mono ?_
  rintro e w' ⟨rfl, hb⟩
  go_wp2
  go_ret2
  exact ⟨rfl, hb⟩

set_option maxHeartbeats 800000 in
theorem rSub_yes (A B : Option Addr) (n m c d : Nat) (a b : List Nat) (w : World) (hn : n ≤ 100000) (hm : m ≤ 100000) (hcn : n ≤ c) (hdm : m ≤ d) (ha : Row w 0 A n a) (hb : Row w 0 B m b) (hle : val b ≤ val a) :
    Calls Tryz.prog 67 #[.slice A n c, .slice B m d] w fun e w' => ∃ A2 c2, e = .returned (.tuple #[.slice A2 (lim (val a - val b)).length c2, .bool true]) ∧ Own w' w.heap.size A2 c2 (lim (val a - val b)).length (lim (val a - val b)) ∧ Below w.heap.size w w' := by
  have hc : ∃ s : Int, 0 ≤ s ∧ s ≤ 1 ∧ Calls Tryz.prog 66 #[.slice A n c, .slice B m d] w fun e w' => e = .returned (.int .i64 s) ∧ Below w.heap.size w w' := by
    refine ⟨_, ?_, ?_, rCmp_any A B n m c d a b w (by omega) (by omega) hcn hdm ha hb⟩
    · unfold cmpI; rw [if_neg (by omega)]; split <;> omega
    · unfold cmpI; rw [if_neg (by omega)]; split <;> omega
  obtain ⟨s, hs0, hs1, hc⟩ := hc
  have HC := Lib.hid hc
  have HLE := Lib.hid hle
  clear hc hle
  go_enter Tryz.func67, Tryz.ntmps67
  go_wp2_with fail
  refine HC.out.mono ?_
  rintro e w0 ⟨rfl, hb0⟩
  have HST : Hid (SubAt w w0 a b 0 0 none 0 []) := ⟨Own.nil_ w0 _, by simp [val, S], hb0⟩
  clear hb0 HC
  go_wp2
  go_loopw [6, 7, 8, 9, 10] (fun o c i _ _ wr => ∃ (k cy : Nat) (A2 : Option Addr) (c2 : Nat) (r : List Nat), k ≤ n ∧ cy ≤ 1 ∧ i = .int .i64 k ∧ c = .int .u64 cy ∧ o = .slice A2 k c2 ∧ Hid (SubAt w wr a b k cy A2 c2 r)) (fun _ _ i _ _ _ => n - (intOf i).toNat)
  case atStart => exact ⟨0, 0, none, 0, [], by omega, by omega, rfl, rfl, rfl, HST⟩
  case round =>
    obtain ⟨k, cy, A2, c2, r, hk, hcy, rfl, rfl, rfl, HA⟩ := hrel
    have ha1 := ha.below HA.out.below
    have hb1 := hb.below HA.out.below
    have OWN := Lib.hid HA.out.own
    have hz := HA.out.below.size
    by_cases h0 : k < n
    · have hxa := ha.l32 k
      have hxb := hb.l32 k
      have FIN : Hid (∀ (A3 : Option Addr) (c3 c' x : Nat) (w1 w3 : World), x + dg b k + cy = dg a k + 4294967296 * c' → Own w3 w.heap.size A3 c3 (k + 1) (r ++ [x]) → Below w.heap.size wr w1 → w.heap.size ≤ w1.heap.size → w1.grownBy w3 (A2.map (·.block)) →
          SubAt w w3 a b (k + 1) c' A3 c3 (r ++ [x])) := by
        intro A3 c3 c' x w1 w3 hx ho hb1 hs1 hg
        refine HA.out.step hx ho ?_
        refine hb1.trans ⟨hg.os, hg.tape, hg.output, hg.size, fun q hq => hg.block q (by omega) ?_⟩
        cases A2 with
        | none => simp
        | some ad =>
          have := OWN.out.own.lt ad.block rfl
          simp; omega
      by_cases hlt : dg a k < dg b k + cy
      · go_wp2_with fail
        refine (at_any A n c a k k _ (by omega) ha1 rfl).mono ?_
        rintro e w' ⟨rfl, rfl⟩
        go_wp2_with fail
        refine (at_any B m d b k k _ (by omega) hb1 rfl).mono ?_
        rintro e w' ⟨rfl, rfl⟩
        generalize dg a k = x at *
        generalize dg b k = y at *
        go_wp2_with (at_builtin; refine wpl_append rfl _ _ rfl rfl rfl (OWN.out.alloc _) (Row.one (x := x + 4294967296 - (y + cy)) (lo := 0) ?c1 ?c2 ?c3) ?c4 ?c5 ?_)
        case c1 => omega
        case c2 => omega
        case c3 => omega
        case c4 => omega
        case c5 => simp; omega
        intro A3 c3 w3 ho3 hg3
        have HA3 := Lib.hid (FIN.out A3 c3 1 _ _ w3 (by omega) ho3 ((Below.refl _ _).alloc hz _) (by simp; omega) hg3)
        clear FIN ho3 hg3 ha1 hb1
        go_wp2
        go_roundw
        case rel => exact ⟨k + 1, 1, A3, c3, _, by omega, by omega, by go_num, by go_num, rfl, HA3⟩
        case measure => simp [intOf]; omega
      · go_wp2_with fail
        refine (at_any A n c a k k _ (by omega) ha1 rfl).mono ?_
        rintro e w' ⟨rfl, rfl⟩
        go_wp2_with fail
        refine (at_any B m d b k k _ (by omega) hb1 rfl).mono ?_
        rintro e w' ⟨rfl, rfl⟩
        generalize dg a k = x at *
        generalize dg b k = y at *
        go_wp2_with (at_builtin; refine wpl_append rfl _ _ rfl rfl rfl (OWN.out.alloc _) (Row.one (x := x - (y + cy)) (lo := 0) ?c1 ?c2 ?c3) ?c4 ?c5 ?_)
        case c1 => omega
        case c2 => omega
        case c3 => omega
        case c4 => omega
        case c5 => simp; omega
        intro A3 c3 w3 ho3 hg3
        have HA3 := Lib.hid (FIN.out A3 c3 0 _ _ w3 (by omega) ho3 ((Below.refl _ _).alloc hz _) (by simp; omega) hg3)
        clear FIN ho3 hg3 ha1 hb1
        go_wp2
        go_roundw
        case rel => exact ⟨k + 1, 0, A3, c3, _, by omega, by omega, by go_num, by go_num, rfl, HA3⟩
        case measure => simp [intOf]; omega
    · have hr := HA.out.own.row
      have hlow := hr.lower (Nat.zero_le _)
      have E1 : Hid (val r = val a - val b) := sub_end ha.l32 hr.l32 (by rw [ha.len]; omega) hr.len HLE.out HA.out.sum
      have hcap := HA.out.own.capLe
      have FIN : Hid (∀ (A3 : Option Addr) (c3 : Nat) (w3 : World), Own w3 wr.heap.size A3 c3 (lim (val r)).length (lim (val r)) → Below wr.heap.size wr w3 →
          Own w3 w.heap.size A3 c3 (lim (val a - val b)).length (lim (val a - val b)) ∧ Below w.heap.size w w3 ∧ (lim (val r)).length = (lim (val a - val b)).length) := by
        intro A3 c3 w3 ho hb
        rw [E1.out] at ho ⊢
        exact ⟨ho.lower hz, HA.out.below.trans (hb.mono hz), rfl⟩
      clear ha1 hb1
      go_wp2_with fail
      refine (rTrim_any A2 k c2 r _ (by omega) hcap hlow).mono ?_
      rintro e w3 ⟨A3, c3, rfl, ho3, hb3⟩
      obtain ⟨f1, f2, f3⟩ := FIN.out A3 c3 w3 ho3 hb3
      clear ho3 hb3
      have F3 := Lib.hid f3; clear f3
      go_wp2
      go_ret2
      exact ⟨A3, c3, by rw [← F3.out]; rfl, f1, f2⟩
end Go.Proofs.YtffnjdfmaebmhaaGreatDoor
