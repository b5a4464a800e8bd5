/-
  The program's rationals, third part: a number's parts, normal; whole numbers; whether it is 0, is too large; its other sign.
-/
import Derived.Test.YtgfajmnmeggaeaaRatB
namespace Go.Proofs.Ytgfajmnmeggaeaa
set_option maxRecDepth 20000
open Go.RowKit

theorem Of_rows (s : Bool) (A B : Option Addr) (n m c d : Nat) (a b : List Nat) (r : Rat) (w : World) (hn : n ≤ 9000) (hm : m ≤ 9000) (hcn : n ≤ c) (hdm : m ≤ d) (ha : Row w 0 A n a) (hb : Row w 0 B m b) (hr : rn s (val a) (val b) = r) :
    Calls Try.prog 21 #[.bool s, .slice A n c, .slice B m d] w fun e w' => ∃ v : Rv, e = .returned (.agg #[.bool v.s, .slice v.A v.n v.c, .slice v.B v.m v.d]) ∧ Rt w' w.heap.size v r ∧ Below w.heap.size w w' := by
  subst hr
  by_cases h : val a = 0
  · rw [rn_zero (.inl h)]; exact Of_zero1 s A B n m c d a w hn hcn ha h
  · by_cases h' : val b = 0
    · rw [rn_zero (.inr h')]; exact Of_zero2 s A B n m c d a b w hn hm hcn hdm ha hb h h'
    · exact Of_pos s A B n m c d a b w hn hm hcn hdm ha hb h h'
theorem Of_nums (s : Bool) (A B : Option Addr) (n m c d x y : Nat) (a b : List Nat) (r : Rat) (w : World) (hx : val a = x) (hy : val b = y) (hn : n ≤ 9000) (hm : m ≤ 9000) (hcn : n ≤ c) (hdm : m ≤ d) (ha : Row w 0 A n a) (hb : Row w 0 B m b) (hr : rn s x y = r) :
    Calls Try.prog 21 #[.bool s, .slice A n c, .slice B m d] w fun e w' => ∃ v : Rv, e = .returned (.agg #[.bool v.s, .slice v.A v.n v.c, .slice v.B v.m v.d]) ∧ Rt w' w.heap.size v r ∧ Below w.heap.size w w' := by
  subst hx hy; exact Of_rows s A B n m c d a b r w hn hm hcn hdm ha hb hr

set_option maxHeartbeats 400000 in
theorem Norm_any (v : Rv) (r : Rat) (w : World) (hv : Rw w v r 5000) :
    Calls Try.prog 11 #[.agg #[.bool v.s, .slice v.A v.n v.c, .slice v.B v.m v.d]] w fun e w' => ∃ v : Rv, e = .returned (.agg #[.bool v.s, .slice v.A v.n v.c, .slice v.B v.m v.d]) ∧ Rt w' w.heap.size v r ∧ Below w.heap.size w w' := by
  obtain ⟨h1, h2, h3, h4, a, b, ha, hb, hr⟩ := hv
  go_enter Try.func11, Try.ntmps11
  go_wp2_with fail
  refine (Of_rows v.s v.A v.B v.n v.m v.c v.d a b r _ (by omega) (by omega) h1 h2 ((ha.alloc _).alloc _) ((hb.alloc _).alloc _) hr).mono ?_
  rintro e w1 ⟨u, rfl, hu, hbl⟩
  have k := ((C3.new (w.alloc (.cells #[.bool v.s, .slice v.A v.n v.c, .slice v.B v.m v.d] 24)) (.bool false) (.slice none 0 0) (.slice none 0 0))).at hbl (by simp)
  have HB := ((((Below.refl w.heap.size w).alloc (Nat.le_refl _) _).alloc (by simp) _).trans (hbl.mono (by simp; omega)))
  have e1 : (w.alloc (.cells #[.bool v.s, .slice v.A v.n v.c, .slice v.B v.m v.d] 24)).heap.size = w.heap.size + 1 := by simp
  rw [e1] at k
  obtain ⟨q0, q1, q2, g0, g1, g2⟩ := k.facts
  clear hbl ha hb
  go_wp2
  refine ret3 (fn := Try.f11) Try.results11 rfl rfl k ?_
  exact ⟨_, rfl, (hu.put (by simp) _ _ _).lower (by simp; omega), HB.trans (put3_below (by omega) _ _ _)⟩

set_option maxHeartbeats 400000 in
theorem Zero_any (v : Rv) (r : Rat) (w : World) (hv : Rw w v r 5000) :
    Calls Try.prog 19 #[.agg #[.bool v.s, .slice v.A v.n v.c, .slice v.B v.m v.d]] w fun e w' => e = .returned (.bool (decide (r = 0))) ∧ Below w.heap.size w w' := by
  obtain ⟨h1, h2, h3, h4, a, b, ha, hb, hr⟩ := hv
  subst hr
  have HB := ((Below.refl w.heap.size w).alloc (Nat.le_refl _) (.cells #[.bool v.s, .slice v.A v.n v.c, .slice v.B v.m v.d] 24))
  by_cases h : val a = 0
  · rw [decide_eq_true (rn_zero (.inl h))]
    go_enter Try.func19, Try.ntmps19
    go_wp2_with fail
    refine (isNought_yes v.A v.n v.c a _ (by omega) h1 (ha.below HB) h).mono ?_
    rintro e w' ⟨rfl, rfl⟩
    go_wp2
    go_ret
    exact ⟨rfl, HB⟩
  · by_cases h' : val b = 0
    · rw [decide_eq_true (rn_zero (.inr h'))]
      go_enter Try.func19, Try.ntmps19
      go_wp2_with fail
      refine (isNought_no v.A v.n v.c a _ (by omega) h1 (ha.below HB) h).mono ?_
      rintro e w' ⟨rfl, rfl⟩
      go_wp2_with fail
      refine (isNought_yes v.B v.m v.d b _ (by omega) h2 (hb.below HB) h').mono ?_
      rintro e w' ⟨rfl, rfl⟩
      go_wp2
      go_ret
      exact ⟨rfl, HB⟩
    · rw [decide_eq_false (rn_ne h h')]
      go_enter Try.func19, Try.ntmps19
      go_wp2_with fail
      refine (isNought_no v.A v.n v.c a _ (by omega) h1 (ha.below HB) h).mono ?_
      rintro e w' ⟨rfl, rfl⟩
      go_wp2_with fail
      refine (isNought_no v.B v.m v.d b _ (by omega) h2 (hb.below HB) h').mono ?_
      rintro e w' ⟨rfl, rfl⟩
      go_wp2
      go_ret
      exact ⟨rfl, HB⟩

set_option maxHeartbeats 400000 in
theorem turned_any (v : Rv) (r : Rat) (p : Nat) (w : World) (hv : Rw w v r p) :
    Calls Try.prog 45 #[.agg #[.bool v.s, .slice v.A v.n v.c, .slice v.B v.m v.d]] w fun e w' => ∃ v : Rv, e = .returned (.agg #[.bool v.s, .slice v.A v.n v.c, .slice v.B v.m v.d]) ∧ Rw w' v (-r) p ∧ Below w.heap.size w w' := by
  have HB := ((Below.refl w.heap.size w).alloc (Nat.le_refl _) (.cells #[.bool v.s, .slice v.A v.n v.c, .slice v.B v.m v.d] 24))
  go_enter Try.func45, Try.ntmps45
  go_wp2
  have k := C3.new (w.alloc (.cells #[.bool !v.s, .slice v.A v.n v.c, .slice v.B v.m v.d] 24)) (.bool !v.s) (.slice v.A v.n v.c) (.slice v.B v.m v.d)
  have e1 : (w.alloc (.cells #[.bool !v.s, .slice v.A v.n v.c, .slice v.B v.m v.d] 24)).heap.size = w.heap.size + 1 := by simp
  rw [e1] at k
  have HB := (((Below.refl w.heap.size w).alloc (Nat.le_refl _) (.cells #[.bool !v.s, .slice v.A v.n v.c, .slice v.B v.m v.d] 24))).alloc (by simp) (.cells #[.bool !v.s, .slice v.A v.n v.c, .slice v.B v.m v.d] 24)
  refine ret3c (fn := Try.f45) Try.results45 rfl rfl k ?_
  obtain ⟨h1, h2, h3, h4, a, b, ha, hb, hr⟩ := hv
  exact ⟨⟨!v.s, v.A, v.n, v.c, v.B, v.m, v.d⟩, rfl, ⟨h1, h2, h3, h4, a, b, ha.below HB, hb.below HB, by rw [← rn_neg, hr]⟩, HB⟩

/-- It reads as r, and its second row is not 0. -/
structure Rd (w : World) (v : Rv) (r : Rat) (p : Nat) : Prop where
  numCap : v.n ≤ v.c
  denCap : v.m ≤ v.d
  numLe : v.n ≤ p
  denLe : v.m ≤ p
  rows : ∃ (a b : List Nat), Row w 0 v.A v.n a ∧ Row w 0 v.B v.m b ∧ rn v.s (val a) (val b) = r ∧ val b ≠ 0
theorem Rd.below {w w' : World} {v : Rv} {r : Rat} {p : Nat} (h : Rd w v r p) (hb : Below w.heap.size w w') : Rd w' v r p := by
  obtain ⟨h1, h2, h3, h4, a, b, ha, hb', hr⟩ := h
  exact ⟨h1, h2, h3, h4, a, b, ha.below hb, hb'.below hb, hr⟩
theorem Rt.rd {w : World} {lo : Nat} {v : Rv} {r : Rat} {p : Nat} (h : Rt w lo v r) (hz : Sz r p) : Rd w v r p := by
  refine ⟨h.3, h.6, by rw [h.2]; exact hz.num.len, by rw [h.5]; exact hz.den.len, _, _, h.4.lower (Nat.zero_le _), h.7.lower (Nat.zero_le _), ?_, ?_⟩
  · rw [val_lim, val_lim, h.1]; exact rn_self r
  · rw [val_lim]; exact r.den_nz
theorem Sz.zero {p : Nat} (hp : 0 < p) : Sz 0 p := by
  have h1 : 4294967296 ^ 1 ≤ 4294967296 ^ p := Nat.pow_le_pow_right (by omega) hp
  exact ⟨show 0 < 4294967296 ^ p by omega, show 1 < 4294967296 ^ p by omega⟩

set_option maxHeartbeats 400000 in
theorem withDenominator_any (v : Rv) (r : Rat) (p : Nat) (w : World) (hv : Rw w v r p) (hp : p ≤ 5000) (hp0 : 0 < p) :
    Calls Try.prog 46 #[.agg #[.bool v.s, .slice v.A v.n v.c, .slice v.B v.m v.d]] w fun e w' => ∃ v : Rv, e = .returned (.agg #[.bool v.s, .slice v.A v.n v.c, .slice v.B v.m v.d]) ∧ Rd w' v r p ∧ Below w.heap.size w w' := by
  obtain ⟨h1, h2, h3, h4, a, b, ha, hb, hr⟩ := hv
  have HA := ((Below.refl w.heap.size w).alloc (Nat.le_refl _) (.cells #[.bool v.s, .slice v.A v.n v.c, .slice v.B v.m v.d] 24)).alloc (by simp) (.cells #[.bool false, .slice none 0 0, .slice none 0 0] 24)
  have e1 : (w.alloc (.cells #[.bool v.s, .slice v.A v.n v.c, .slice v.B v.m v.d] 24)).heap.size = w.heap.size + 1 := by simp
  by_cases h : val b = 0
  · have hr0 : r = 0 := by rw [← hr]; exact rn_zero (.inr h)
    go_enter Try.func46, Try.ntmps46
    go_wp2_with fail
    refine (isNought_yes v.B v.m v.d b _ (by omega) h2 (hb.below HA) h).mono ?_
    rintro e w' ⟨rfl, rfl⟩
    go_wp2_with fail
    refine (nought_any _).mono ?_
    rintro e w1 ⟨u, rfl, hu, hbl⟩
    have k := ((C3.new (w.alloc (.cells #[.bool v.s, .slice v.A v.n v.c, .slice v.B v.m v.d] 24)) (.bool false) (.slice none 0 0) (.slice none 0 0))).at hbl (by simp)
    rw [e1] at k
    have HB := HA.trans (hbl.mono (by simp; omega))
    obtain ⟨q0, q1, q2, g0, g1, g2⟩ := k.facts
    clear hbl ha hb
    go_wp2
    refine ret3 (fn := Try.f46) Try.results46 rfl rfl k ?_
    refine ⟨u, rfl, ?_, HB.trans (put3_below (by omega) _ _ _)⟩
    rw [hr0]
    exact (hu.put (by simp) _ _ _).rd (Sz.zero hp0)
  · go_enter Try.func46, Try.ntmps46
    go_wp2_with fail
    refine (isNought_no v.B v.m v.d b _ (by omega) h2 (hb.below HA) h).mono ?_
    rintro e w' ⟨rfl, rfl⟩
    go_wp2
    have k := C3.new (w.alloc (.cells #[.bool v.s, .slice v.A v.n v.c, .slice v.B v.m v.d] 24)) (.bool v.s) (.slice v.A v.n v.c) (.slice v.B v.m v.d)
    rw [e1] at k
    refine ret3c (fn := Try.f46) Try.results46 rfl rfl k ?_
    have HB := ((Below.refl w.heap.size w).alloc (Nat.le_refl _) (.cells #[.bool v.s, .slice v.A v.n v.c, .slice v.B v.m v.d] 24)).alloc (by simp) (.cells #[.bool v.s, .slice v.A v.n v.c, .slice v.B v.m v.d] 24)
    exact ⟨v, rfl, ⟨h1, h2, h3, h4, a, b, ha.below HB, hb.below HB, hr, h⟩, HB⟩

theorem rn_int_eq (i : Int) (s : Bool) (x : Nat) (h : (if s then -(x : Int) else (x : Int)) = i) : rn s x 1 = (i : Rat) := by rw [rn_int, h]

end Go.Proofs.Ytgfajmnmeggaeaa
