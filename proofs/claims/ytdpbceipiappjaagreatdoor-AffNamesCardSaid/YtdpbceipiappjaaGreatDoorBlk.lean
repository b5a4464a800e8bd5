/-
  How many nodes a tree that came in has by its weight; trees that came in, and what they weigh, in a later world.
-/
import Derived.Test.YtdpbceipiappjaaGreatDoorTgP
namespace Go.Proofs.YtdpbceipiappjaaGreatDoor
set_option maxRecDepth 20000
open Go.RowKit

theorem at6_inj {w : World} {b o : Nat} {x y : Ev} (h : At6 w b o x) (h' : At6 w b o y) : x = y := by
  obtain ⟨xk, ⟨xs, xA, xn, xc, xB, xm, xd⟩, xst, xK, xN, xC⟩ := x
  obtain ⟨yk, ⟨ys, yA, yn, yc, yB, ym, yd⟩, yst, yK, yN, yC⟩ := y
  obtain ⟨h0, h1, h2, h3, h4, h5⟩ := h
  obtain ⟨g0, g1, g2, g3, g4, g5⟩ := h'
  rw [h0] at g0; rw [h1] at g1; rw [h2] at g2; rw [h3] at g3; rw [h4] at g4; rw [h5] at g5
  simp only [Option.some.injEq, Value.int.injEq, Value.bool.injEq, Value.slice.injEq, Value.string.injEq] at g0 g1 g2 g3 g4 g5
  obtain ⟨_, rfl⟩ := g0
  subst g1
  obtain ⟨rfl, rfl, rfl⟩ := g2
  obtain ⟨rfl, rfl, rfl⟩ := g3
  subst g4
  obtain ⟨rfl, rfl, rfl⟩ := g5
  rfl
theorem tg_nodes {w : World} : ∀ (t : Ex) (k L : Nat) (v : Ev), Tg w t v → Light w k v L → 3 * t.nodes ≤ L := by
  intro t
  induction t with
  | bad => exact fun k L v h => h.elim
  | num r =>
    intro k L v _ hl
    cases k with
    | zero => exact hl.elim
    | succ k => obtain ⟨ls, hL, _⟩ := hl; show 3 * 1 ≤ L; omega
  | nm s =>
    intro k L v _ hl
    cases k with
    | zero => exact hl.elim
    | succ k => obtain ⟨ls, hL, _⟩ := hl; show 3 * 1 ≤ L; omega
  | bin q a b iha ihb =>
    intro k L v ht hl
    cases k with
    | zero => exact hl.elim
    | succ k =>
      obtain ⟨ls, hL, hk⟩ := hl
      obtain ⟨h1, h2, h3, hr, b0, off, p, z, h5, h6, h7, h8, h9, h10⟩ := ht
      rw [h2] at hL hk
      have hs : sumL ls 2 = 0 + ls 0 + ls 1 := rfl
      obtain ⟨c0, o0, x0, e0, _, a0, _, l0⟩ := hk 0 (by omega)
      obtain ⟨c1, o1, x1, e1, _, a1, _, l1⟩ := hk 1 (by omega)
      rw [h5] at e0 e1
      injection e0 with e0; injection e0 with q1 q2; subst q1; subst q2
      injection e1 with e1; injection e1 with q1 q2; subst q1; subst q2
      have d0 := at6_inj h7 a0
      have d1 := at6_inj h8 a1
      subst d0; subst d1
      have i1 := iha k (ls 0) p h9 l0
      have i2 := ihb k (ls 1) z h10 l1
      show 3 * (1 + a.nodes + b.nodes) ≤ L
      omega
  | neg a iha =>
    intro k L v ht hl
    cases k with
    | zero => exact hl.elim
    | succ k =>
      obtain ⟨ls, hL, hk⟩ := hl
      obtain ⟨h1, h2, h3, hr, b0, off, p, h5, h6, h7, h8⟩ := ht
      rw [h2] at hL hk
      have hs : sumL ls 1 = 0 + ls 0 := rfl
      obtain ⟨c0, o0, x0, e0, _, a0, _, l0⟩ := hk 0 (by omega)
      rw [h5] at e0
      injection e0 with e0; injection e0 with q1 q2; subst q1; subst q2
      have d0 := at6_inj h7 a0
      subst d0
      have i1 := iha k (ls 0) p h8 l0
      show 3 * (1 + a.nodes) ≤ L
      omega
theorem rt_one {w : World} {y : Rv} {r s : Rat} (h : Rt w 0 y r) (h' : Rt w 0 y s) : r = s := by
  have e1 := congrArg val (row_one h.num h'.num)
  have e2 := congrArg val (row_one h.den h'.den)
  rw [val_lim, val_lim] at e1 e2
  have e3 := h.sign.symm.trans h'.sign
  have e4 : r.num < 0 ↔ s.num < 0 := by
    constructor
    · intro hn; rw [decide_eq_true hn] at e3; exact of_decide_eq_true e3.symm
    · intro hn; rw [decide_eq_true hn] at e3; exact of_decide_eq_true e3
  have e5 : r.num = s.num := by
    by_cases hn : r.num < 0
    · have := e4.1 hn; omega
    · have : ¬ s.num < 0 := fun h => hn (e4.2 h); omega
  exact Rat.ext e5 e2
theorem tg_one {w : World} : ∀ (t u : Ex) (v : Ev), Tg w t v → Tg w u v → t = u := by
  intro t
  induction t with
  | bad => exact fun u v h => h.elim
  | num r =>
    intro u v h h'
    cases u with
    | bad => exact h'.elim
    | num s => rw [rt_one h.2.2.2 h'.2.2.2]
    | nm s => have e := h.1.symm.trans h'.1; omega
    | bin k a b => have e := h.2.1.symm.trans h'.2.1; omega
    | neg a => have e := h.2.1.symm.trans h'.2.1; omega
  | nm s =>
    intro u v h h'
    cases u with
    | bad => exact h'.elim
    | num r => have e := h.1.symm.trans h'.1; omega
    | nm s' => rw [h.2.2.1.symm.trans h'.2.2.1]
    | bin k a b => have e := h.2.1.symm.trans h'.2.1; omega
    | neg a => have e := h.2.1.symm.trans h'.2.1; omega
  | bin k a b iha ihb =>
    intro u v h h'
    cases u with
    | bad => exact h'.elim
    | num r => have e := h.2.1.symm.trans h'.2.1; omega
    | nm s' => have e := h.2.1.symm.trans h'.2.1; omega
    | neg a => have e := h.2.1.symm.trans h'.2.1; omega
    | bin k' a' b' =>
      obtain ⟨h1, _, _, _, b0, off, p, q, h5, _, h7, h8, h9, h10⟩ := h
      obtain ⟨g1, _, _, _, c0, off2, p2, q2, g5, _, g7, g8, g9, g10⟩ := h'
      rw [h5] at g5
      injection g5 with g5; injection g5 with e1 e2; subst e1; subst e2
      have e3 := at6_inj h7 g7
      have e4 := at6_inj h8 g8
      subst e3; subst e4
      have e5 : k = k' := by have := h1.symm.trans g1; omega
      rw [e5, iha a' p h9 g9, ihb b' q h10 g10]
  | neg a iha =>
    intro u v h h'
    cases u with
    | bad => exact h'.elim
    | num r => have e := h.2.1.symm.trans h'.2.1; omega
    | nm s' => have e := h.2.1.symm.trans h'.2.1; omega
    | bin k a b => have e := h.2.1.symm.trans h'.2.1; omega
    | neg a' =>
      obtain ⟨_, _, _, _, b0, off, p, h5, _, h7, h8⟩ := h
      obtain ⟨_, _, _, _, c0, off2, p2, g5, _, g7, g8⟩ := h'
      rw [h5] at g5
      injection g5 with g5; injection g5 with e1 e2; subst e1; subst e2
      have e3 := at6_inj h7 g7
      subst e3
      rw [iha a' p h8 g8]
theorem raw_le {w : World} {k j : Nat} {v : Ev} (h : Raw w k v) (hj : k ≤ j) : Raw w j v := by
  obtain ⟨d, rfl⟩ : ∃ d, j = k + d := ⟨j - k, by omega⟩
  clear hj
  induction d with
  | zero => exact h
  | succ d ih => exact raw_up _ _ ih
theorem light_up {w : World} : ∀ (k : Nat) (v : Ev) (L : Nat), Light w k v L → Light w (k + 1) v L := by
  intro k
  induction k with
  | zero => exact fun v L h => h.elim
  | succ k ih =>
    intro v L ⟨ls, h1, h2⟩
    refine ⟨ls, h1, fun i hi => ?_⟩
    obtain ⟨b, off, x, e, hb, hx, hr, hl⟩ := h2 i hi
    exact ⟨b, off, x, e, hb, hx, raw_up _ _ hr, ih x _ hl⟩
theorem light_le {w : World} {k j L : Nat} {v : Ev} (h : Light w k v L) (hj : k ≤ j) : Light w j v L := by
  obtain ⟨d, rfl⟩ : ∃ d, j = k + d := ⟨j - k, by omega⟩
  clear hj
  induction d with
  | zero => exact h
  | succ d ih => exact light_up _ _ _ ih
theorem raw_below {w w' : World} (hb : Below w.heap.size w w') : ∀ (k : Nat) (v : Ev), Raw w k v → Raw w' k v := by
  intro k
  induction k with
  | zero => exact fun v h => h
  | succ k ih =>
    intro v ⟨h1, h2, h3, h4, h5, h6⟩
    refine ⟨h1, h2.below hb, h3, h4, h5, fun i hi => ?_⟩
    obtain ⟨b, off, x, e, hbl, hx, hr⟩ := h6 i hi
    exact ⟨b, off, x, e, Nat.lt_of_lt_of_le hbl hb.size, hx.keep (hb.block b hbl), ih x hr⟩
theorem light_below {w w' : World} (hb : Below w.heap.size w w') : ∀ (k : Nat) (v : Ev) (L : Nat), Light w k v L → Light w' k v L := by
  intro k
  induction k with
  | zero => exact fun v L h => h
  | succ k ih =>
    intro v L ⟨ls, h1, h2⟩
    refine ⟨ls, h1, fun i hi => ?_⟩
    obtain ⟨b, off, x, e, hbl, hx, hr, hl⟩ := h2 i hi
    exact ⟨b, off, x, e, Nat.lt_of_lt_of_le hbl hb.size, hx.keep (hb.block b hbl), raw_below hb k x hr, ih x _ hl⟩
/-- A product that the call itself makes. -/
def Wv (b : Nat) : Ev := ⟨5, ⟨false, none, 0, 0, none, 0, 0⟩, ⟨#[]⟩, some ⟨b, 0, none⟩, 2, 2⟩
theorem want_tg {w : World} {b : Nat} {x y : Ev} {s t : Ex} (hl : b < w.heap.size) (h : w.heap[b]? = some (.cells #[.int .i64 x.k, .bool x.r.s, .slice x.r.A x.r.n x.r.c, .slice x.r.B x.r.m x.r.d, .string x.s, .slice x.K x.n x.c, .int .i64 y.k, .bool y.r.s, .slice y.r.A y.r.n y.r.c, .slice y.r.B y.r.m y.r.d, .string y.s, .slice y.K y.n y.c] 27 (0, 0))) (hx : Tg w s x) (hy : Tg w t y) : Tg w (.bin 5 s t) (Wv b) := by
  obtain ⟨h6a, h6b⟩ := at6_two h
  exact ⟨rfl, rfl, rfl, ⟨rfl, rfl, .inl rfl⟩, b, 0, x, y, rfl, hl, h6a, h6b, hx, hy⟩
theorem want_raw {w : World} {b k : Nat} {x y : Ev} (hl : b < w.heap.size) (h : w.heap[b]? = some (.cells #[.int .i64 x.k, .bool x.r.s, .slice x.r.A x.r.n x.r.c, .slice x.r.B x.r.m x.r.d, .string x.s, .slice x.K x.n x.c, .int .i64 y.k, .bool y.r.s, .slice y.r.A y.r.n y.r.c, .slice y.r.B y.r.m y.r.d, .string y.s, .slice y.K y.n y.c] 27 (0, 0))) (hx : Raw w k x) (hy : Raw w k y) : Raw w (k + 1) (Wv b) := by
  obtain ⟨h6a, h6b⟩ := at6_two h
  refine ⟨⟨by show (-9223372036854775808 : Int) ≤ 5; omega, by show (5 : Int) ≤ 9223372036854775807; omega⟩, ⟨Nat.le_refl _, Nat.le_refl _, by show 0 ≤ _; omega, by show 0 ≤ _; omega, [], [], Row.nil_ _ _ _, Row.nil_ _ _ _⟩, by show 0 ≤ _; omega, Nat.le_refl _, by show 2 ≤ _; omega, fun i hi => ?_⟩
  have hi' : i < 2 := hi
  have : i = 0 ∨ i = 1 := by omega
  rcases this with rfl | rfl
  · exact ⟨b, 0, x, rfl, hl, h6a, hx⟩
  · exact ⟨b, 0, y, rfl, hl, h6b, hy⟩
theorem want_light {w : World} {b k L M : Nat} {x y : Ev} (hl : b < w.heap.size) (h : w.heap[b]? = some (.cells #[.int .i64 x.k, .bool x.r.s, .slice x.r.A x.r.n x.r.c, .slice x.r.B x.r.m x.r.d, .string x.s, .slice x.K x.n x.c, .int .i64 y.k, .bool y.r.s, .slice y.r.A y.r.n y.r.c, .slice y.r.B y.r.m y.r.d, .string y.s, .slice y.K y.n y.c] 27 (0, 0))) (hx : Raw w k x) (hy : Raw w k y) (lx : Light w k x L) (ly : Light w k y M) : Light w (k + 1) (Wv b) (3 + L + M) := by
  obtain ⟨h6a, h6b⟩ := at6_two h
  refine ⟨two_ L M, ?_, fun i hi => ?_⟩
  · have e : sumL (two_ L M) (Wv b).n = 0 + L + M := rfl
    rw [e]
    show 3 + L + M = 3 + 0 + 8 * 0 + 8 * 0 + (0 + L + M)
    omega
  have hi' : i < 2 := hi
  have : i = 0 ∨ i = 1 := by omega
  rcases this with rfl | rfl
  · exact ⟨b, 0, x, rfl, hl, h6a, hx, lx⟩
  · exact ⟨b, 0, y, rfl, hl, h6b, hy, ly⟩
end Go.Proofs.YtdpbceipiappjaaGreatDoor
