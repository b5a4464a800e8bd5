/-
  The program's rationals, second part: a number of its parts, normal.
-/
import Derived.Test.YtgfajmnmeggaeaaRatA
namespace Go.Proofs.Ytgfajmnmeggaeaa
set_option maxRecDepth 20000
open Go.RowKit

set_option maxHeartbeats 400000 in
theorem quotient_any (A B : Option Addr) (n m c d x y : Nat) (a b : List Nat) (w : World) (hn : n ≤ 40000) (hm : m ≤ 40000) (hcn : n ≤ c) (hdm : m ≤ d) (ha : Row w 0 A n a) (hb : Row w 0 B m b) (hx : val a = x) (hy : val b = y) (h0 : 0 < y) :
    Calls Try.prog 38 #[.slice A n c, .slice B m d] w fun e w' => ∃ X cx, e = .returned (.slice X (lim (x / y)).length cx) ∧ Own w' w.heap.size X cx (lim (x / y)).length (lim (x / y)) ∧ Below w.heap.size w w' := by
  go_enter Try.func38, Try.ntmps38
  go_wp2_with fail
  refine (DivMod_pos A B n m c d x y a b _ hn hm hcn hdm ha hb hx hy h0).mono ?_
  rintro e w' ⟨X, cx, Y, cy, rfl, ho, _, hbl⟩
  go_wp2
  go_ret
  exact ⟨X, cx, rfl, ho, hbl⟩

set_option maxHeartbeats 800000 in
theorem Of_zero1 (s : Bool) (A B : Option Addr) (n m c d : Nat) (a : List Nat) (w : World) (hn : n ≤ 9000) (hcn : n ≤ c) (ha : Row w 0 A n a) (h : val a = 0) :
    Calls Try.prog 21 #[.bool s, .slice A n c, .slice B m d] w fun e w' => ∃ v : Rv, e = .returned (.agg #[.bool v.s, .slice v.A v.n v.c, .slice v.B v.m v.d]) ∧ Rt w' w.heap.size v 0 ∧ Below w.heap.size w w' := by
  go_enter Try.func21, Try.ntmps21
  go_wp2_with fail
  refine (isNought_yes A n c a _ (by omega) hcn (ha.alloc _) h).mono ?_
  rintro e w' ⟨rfl, rfl⟩
  go_wp2_with fail
  refine (nought_any _).mono ?_
  rintro e w1 ⟨v, rfl, hr, hb⟩
  have k := (C3.new w (.bool false) (.slice none 0 0) (.slice none 0 0)).at hb (by simp)
  have hb0 := (((Below.refl w.heap.size w).alloc (Nat.le_refl _) _).trans (hb.mono (by simp)))
  clear hb ha
  obtain ⟨q0, q1, q2, g0, g1, g2⟩ := k.facts
  go_wp2
  refine ret3 (fn := Try.f21) Try.results21 rfl rfl k ?_
  exact ⟨v, rfl, (hr.put (by simp) _ _ _).lower (by simp), hb0.trans (put3_below (Nat.le_refl _) _ _ _)⟩

set_option maxHeartbeats 800000 in
theorem Of_zero2 (s : Bool) (A B : Option Addr) (n m c d : Nat) (a b : List Nat) (w : World) (hn : n ≤ 9000) (hm : m ≤ 9000) (hcn : n ≤ c) (hdm : m ≤ d) (ha : Row w 0 A n a) (hb : Row w 0 B m b) (h : val a ≠ 0) (h' : val b = 0) :
    Calls Try.prog 21 #[.bool s, .slice A n c, .slice B m d] w fun e w' => ∃ v : Rv, e = .returned (.agg #[.bool v.s, .slice v.A v.n v.c, .slice v.B v.m v.d]) ∧ Rt w' w.heap.size v 0 ∧ Below w.heap.size w w' := by
  go_enter Try.func21, Try.ntmps21
  go_wp2_with fail
  refine (isNought_no A n c a _ (by omega) hcn (ha.alloc _) h).mono ?_
  rintro e w' ⟨rfl, rfl⟩
  go_wp2_with fail
  refine (isNought_yes B m d b _ (by omega) hdm (hb.alloc _) h').mono ?_
  rintro e w' ⟨rfl, rfl⟩
  go_wp2_with fail
  refine (nought_any _).mono ?_
  rintro e w1 ⟨v, rfl, hr, hb⟩
  have k := (C3.new w (.bool false) (.slice none 0 0) (.slice none 0 0)).at hb (by simp)
  have hb0 := (((Below.refl w.heap.size w).alloc (Nat.le_refl _) _).trans (hb.mono (by simp)))
  clear hb ha
  obtain ⟨q0, q1, q2, g0, g1, g2⟩ := k.facts
  go_wp2
  refine ret3 (fn := Try.f21) Try.results21 rfl rfl k ?_
  exact ⟨v, rfl, (hr.put (by simp) _ _ _).lower (by simp), hb0.trans (put3_below (Nat.le_refl _) _ _ _)⟩

theorem Rt.parts {w : World} {lo : Nat} {s : Bool} {x y : Nat} {v : Rv} (hx : x ≠ 0) (hy : y ≠ 0) (hs : v.s = s) (hn : v.n = (lim (x / Nat.gcd x y)).length) (hm : v.m = (lim (y / Nat.gcd x y)).length) (hc : v.n ≤ v.c) (hd : v.m ≤ v.d)
    (h1 : Row w lo v.A v.n (lim (x / Nat.gcd x y))) (h2 : Row w lo v.B v.m (lim (y / Nat.gcd x y))) : Rt w lo v (rn s x y) := by
  refine ⟨by rw [rn_sign hx hy]; exact hs, ?_, hc, ?_, ?_, hd, ?_⟩
  · rw [rn_abs hy]; exact hn
  · rw [rn_abs hy]; exact h1
  · rw [rn_den hy]; exact hm
  · rw [rn_den hy]; exact h2

set_option maxHeartbeats 1600000 in
theorem Of_pos (s : Bool) (A B : Option Addr) (n m c d : Nat) (a b : List Nat) (w : World) (hn : n ≤ 9000) (hm : m ≤ 9000) (hcn : n ≤ c) (hdm : m ≤ d) (ha : Row w 0 A n a) (hb : Row w 0 B m b) (h : val a ≠ 0) (h' : val b ≠ 0) :
    Calls Try.prog 21 #[.bool s, .slice A n c, .slice B m d] w fun e w' => ∃ v : Rv, e = .returned (.agg #[.bool v.s, .slice v.A v.n v.c, .slice v.B v.m v.d]) ∧ Rt w' w.heap.size v (rn s (val a) (val b)) ∧ Below w.heap.size w w' := by
  have hg : 0 < Nat.gcd (val a) (val b) := Nat.gcd_pos_of_pos_left _ (Nat.pos_of_ne_zero h)
  have hgl : (lim (Nat.gcd (val a) (val b))).length ≤ 9000 := ((ha.bd hn).le (Nat.gcd_le_left _ (Nat.pos_of_ne_zero h))).len
  go_enter Try.func21, Try.ntmps21
  go_wp2_with fail
  refine (isNought_no A n c a _ (by omega) hcn (ha.alloc _) h).mono ?_
  rintro e w' ⟨rfl, rfl⟩
  go_wp2_with fail
  refine (isNought_no B m d b _ (by omega) hdm (hb.alloc _) h').mono ?_
  rintro e w' ⟨rfl, rfl⟩
  go_wp2_with fail
  refine (Gcd_any A B n m c d (val a) (val b) a b _ (by omega) (by omega) hcn hdm (ha.alloc _) (hb.alloc _) rfl rfl).mono ?_
  rintro e w1 ⟨X, cx, rfl, hcx, hrx, hb1⟩
  have k := (C3.new w (.bool false) (.slice none 0 0) (.slice none 0 0)).at hb1 (by simp)
  have HB := (((Below.refl w.heap.size w).alloc (Nat.le_refl _) _).trans (hb1.mono (by simp)))
  clear hb1
  go_wp2_with fail
  refine (quotient_any A X n _ c cx (val a) _ a _ _ (by omega) (by omega) hcn hcx (ha.below HB) hrx rfl (val_lim _) hg).mono ?_
  rintro e w2 ⟨Y, cy, rfl, hoy, hb2⟩
  have hlt1 := k.lt
  replace k := k.below hb2
  replace HB := HB.trans (hb2.mono HB.size)
  have hs1 := hb2.size
  have hrx2 := hrx.below hb2
  have hry := hoy.row
  have hcy := hoy.capLe
  clear hrx hoy hb2
  go_wp2_with fail
  refine (quotient_any B X m _ d cx (val b) _ b _ _ (by omega) (by omega) hdm hcx (hb.below HB) hrx2 rfl (val_lim _) hg).mono ?_
  rintro e w3 ⟨Z, cz, rfl, hoz, hb3⟩
  replace k := k.below hb3
  replace hry := hry.below hb3
  have hrz := hoz.row
  have hcz := hoz.capLe
  have hs2 := hb3.size
  replace HB := HB.trans (hb3.mono HB.size)
  clear hoz hb3 hrx2
  obtain ⟨q0, q1, q2, g0, g1, g2⟩ := k.facts
  go_wp2
  refine ret3 (fn := Try.f21) Try.results21 rfl rfl k ?_
  refine ⟨⟨_, _, _, _, _, _, _⟩, rfl, ?_, HB.trans (put3_below (Nat.le_refl _) _ _ _)⟩
  refine Rt.lower (lo := w.heap.size + 1) ?_ (by omega)
  exact Rt.parts h h' rfl rfl rfl hcy hcz ((hry.lower (by omega)).put (by omega) _ _ _) ((hrz.lower (by omega)).put (by omega) _ _ _)
end Go.Proofs.Ytgfajmnmeggaeaa
