/-
  Rationals, no program: what a sign and two naturals are worth; sums, products, quotients, floors of these.
  The program's rationals, first part: whether a row is 0, one, nought, a quotient, a number of its parts.
  The program's rationals, second part: a number of its parts, normal.
  The program's rationals, third part: a number's parts, normal; whole numbers; whether it is 0, is too large; its other sign.
  The program's rationals, fourth part: sums, products, quotients, comparisons, floors.
  The program's rationals, fifth part: sums, differences, the other sign, comparisons.
  The program's rationals, sixth part: quotients, differences, the other sign, comparisons, floors.
  The program's rationals, seventh part: the whole number below, whether one is too large, whether it is normal.
  The law's own helpers: whether two rationals are one, the known sum.
  big: are some rationals more limbs than is looked at?
  What a law's walk over rationals keeps: sizes of sums, products; the world behind the parameters' blocks and the row that 'big' is handed.
-/
import Derived.Test.YtplpkojikgeamaaLawKit
import Derived.Test.YtplpkojikgeamaaGcd
import Derived.Test.YtplpkojikgeamaaNSub
import Derived.Outline
import Derived.Sort.AtCall
import Derived.Deep.RegionHeld3
namespace Go.Proofs.Ytplpkojikgeamaa
set_option maxRecDepth 20000

def rn (s : Bool) (x y : Nat) : Rat := mkRat (if s then -(x : Int) else (x : Int)) y
theorem rn_zero {s : Bool} {x y : Nat} (h : x = 0 ∨ y = 0) : rn s x y = 0 := by
  unfold rn
  rcases h with rfl | rfl
  · cases s <;> simp
  · simp
theorem rn_absI (s : Bool) (x : Nat) : (if s then -(x : Int) else (x : Int)).natAbs = x := by cases s <;> simp
theorem rn_abs {s : Bool} {x y : Nat} (hy : y ≠ 0) : (rn s x y).num.natAbs = x / Nat.gcd x y := by
  unfold rn
  rw [Rat.num_mkRat, if_neg hy, rn_absI, Int.natAbs_ediv_of_dvd, rn_absI, Nat.gcd_comm]
  · rfl
  · rw [Int.ofNat_dvd_left, rn_absI]; exact Nat.gcd_dvd_right _ _
theorem rn_den {s : Bool} {x y : Nat} (hy : y ≠ 0) : (rn s x y).den = y / Nat.gcd x y := by
  unfold rn
  rw [Rat.den_mkRat, if_neg hy, rn_absI, Nat.gcd_comm]
theorem rn_neg (s : Bool) (x y : Nat) : -rn s x y = rn (!s) x y := by
  unfold rn; rw [Rat.neg_mkRat]; cases s <;> simp
theorem mkRat_nonneg {x y : Nat} : 0 ≤ (mkRat (x : Int) y).num := by
  rw [Rat.num_mkRat]
  split
  · exact Int.le_refl _
  · exact Int.ediv_nonneg (by omega) (by omega)
theorem rn_pos (x y : Nat) : 0 ≤ (rn false x y).num := mkRat_nonneg
theorem rn_ne {s : Bool} {x y : Nat} (hx : x ≠ 0) (hy : y ≠ 0) : rn s x y ≠ 0 := by
  unfold rn
  rw [Rat.mkRat_ne_zero hy]; cases s <;> simp <;> omega
theorem rn_eq_zero {s : Bool} {x y : Nat} : rn s x y = 0 ↔ (x = 0 ∨ y = 0) := by
  constructor
  · intro h
    by_cases hx : x = 0
    · exact .inl hx
    · by_cases hy : y = 0
      · exact .inr hy
      · exact absurd h (rn_ne hx hy)
  · exact rn_zero
theorem num_ne {r : Rat} (h : r ≠ 0) : r.num ≠ 0 := fun e => h (Rat.num_eq_zero.1 e)
theorem rn_sign {s : Bool} {x y : Nat} (hx : x ≠ 0) (hy : y ≠ 0) : decide ((rn s x y).num < 0) = s := by
  cases s
  · have := rn_pos x y
    rw [decide_eq_false_iff_not]; omega
  · have e : rn true x y = -rn false x y := by rw [rn_neg]; rfl
    have h1 := rn_pos x y
    have h2 := num_ne (rn_ne (s := false) hx hy)
    rw [e, decide_eq_true_iff, Rat.neg_num]; omega
theorem rn_self (r : Rat) : rn (decide (r.num < 0)) r.num.natAbs r.den = r := by
  unfold rn
  have : (if decide (r.num < 0) = true then -((r.num.natAbs : Nat) : Int) else (r.num.natAbs : Int)) = r.num := by
    split
    · rename_i h; rw [decide_eq_true_iff] at h; omega
    · rename_i h; rw [decide_eq_true_iff] at h; omega
  rw [this, Rat.mkRat_self]
theorem rn_mul (s t : Bool) (x y u v : Nat) : rn s x y * rn t u v = rn (s != t) (x * u) (y * v) := by
  unfold rn
  rw [Rat.mkRat_mul_mkRat]
  cases s <;> cases t <;> simp [Int.neg_mul, Int.mul_neg]
theorem rn_add (s : Bool) {x y u v : Nat} (hy : y ≠ 0) (hv : v ≠ 0) : rn s x y + rn s u v = rn s (x * v + u * y) (y * v) := by
  unfold rn
  rw [Rat.mkRat_add_mkRat _ _ hy hv]
  cases s <;> simp [Int.neg_mul, Int.neg_add]
theorem rn_sub {s t : Bool} {x y u v : Nat} (hst : t = !s) (hy : y ≠ 0) (hv : v ≠ 0) (h : u * y ≤ x * v) : rn s x y + rn t u v = rn s (x * v - u * y) (y * v) := by
  subst hst
  unfold rn
  rw [Rat.mkRat_add_mkRat _ _ hy hv]
  have e : ((x * v - u * y : Nat) : Int) = (x : Int) * v - (u : Int) * y := by rw [Int.ofNat_sub h]; simp
  rw [e]
  cases s <;> simp [Int.neg_mul] <;> congr 1 <;> omega
theorem rn_sub' {s t : Bool} {x y u v : Nat} (hst : t = !s) (hy : y ≠ 0) (hv : v ≠ 0) (h : x * v ≤ u * y) : rn s x y + rn t u v = rn t (u * y - x * v) (y * v) := by
  rw [Rat.add_comm, rn_sub (by subst hst; simp) hv hy h, Nat.mul_comm v y]
theorem rn_inv (t : Bool) {u v : Nat} (hu : u ≠ 0) (hv : v ≠ 0) : (rn t u v)⁻¹ = rn t v u := by
  apply Rat.inv_eq_of_mul_eq_one
  rw [rn_mul]
  have : (t != t) = false := by cases t <;> rfl
  rw [this]
  unfold rn
  have e : (v * u) = u * v := Nat.mul_comm _ _
  have h1 : (u * v : Nat) ≠ 0 := Nat.mul_ne_zero hu hv
  have : (1 : Rat) = mkRat 1 1 := rfl
  rw [this, Rat.mkRat_eq_iff (by rw [e]; exact h1) (by omega)]
  simp [Int.mul_comm]
theorem rn_div (s t : Bool) {x y u v : Nat} (hu : u ≠ 0) (hv : v ≠ 0) : rn s x y / rn t u v = rn (s != t) (x * v) (y * u) := by
  rw [Rat.div_def, rn_inv t hu hv, rn_mul]
theorem rn_int (s : Bool) (x : Nat) : rn s x 1 = (((if s then -(x : Int) else (x : Int)) : Int) : Rat) := by
  unfold rn
  exact Rat.mkRat_self (((if s then -(x : Int) else (x : Int)) : Int) : Rat)

theorem rn_floor (s : Bool) {x y : Nat} (hy : y ≠ 0) : (((rn s x y).floor : Int) : Rat) = rn s (x / y + (if s = true ∧ x % y ≠ 0 then 1 else 0)) 1 := by
  rw [rn_int]
  congr 1
  have hr : rn s x y = mkRat (if s then -(x : Int) else (x : Int)) y := rfl
  have hyp : (0 : Int) < (y : Int) := by omega
  have key : ∀ z : Int, (mkRat z y).floor = z / y := by
    intro z
    obtain ⟨d, hd, h1, h2⟩ := Rat.normalize_num_den' z y hy
    rw [Rat.normalize_eq_mkRat] at h1 h2
    generalize mkRat z y = r at *
    rw [Rat.floor_def, h1, h2]
    rw [Int.natCast_mul, Int.mul_ediv_mul_of_pos_left _ _ (by omega)]
  rw [hr, key]
  cases s
  · simp
  · simp only [if_true, true_and]
    by_cases h : x % y = 0
    · have hd : (y : Int) ∣ (x : Int) := Int.ofNat_dvd.2 (Nat.dvd_of_mod_eq_zero h)
      rw [if_neg (by simp [h]), Int.neg_ediv_of_dvd hd]; simp
    · rw [if_pos h]
      have h1 := Nat.div_add_mod x y
      have h2 := Nat.mod_lt x (Nat.pos_of_ne_zero hy)
      have e : -(x : Int) = -((x / y + 1 : Nat) : Int) * y + ((y : Int) - ((x % y : Nat) : Int)) := by
        have : (x : Int) = (y : Int) * ((x / y : Nat) : Int) + ((x % y : Nat) : Int) := by
          rw [← Int.natCast_mul, ← Int.natCast_add, h1]
        rw [Int.natCast_add, Int.neg_mul, Int.add_mul, Int.mul_comm ((x / y : Nat) : Int)]
        simp
        simp at this
        omega
      rw [e, Int.add_comm, Int.add_mul_ediv_right _ _ (by omega), Int.ediv_eq_zero_of_lt (by omega) (by omega)]
      simp
def sgn (r : Rat) : Int := if r = 0 then 0 else if r.num < 0 then -1 else 1
theorem sgn_rn {s : Bool} {x y : Nat} (hy : y ≠ 0) : sgn (rn s x y) = if x = 0 then 0 else if s then -1 else 1 := by
  unfold sgn
  by_cases hx : x = 0
  · rw [if_pos (rn_zero (.inl hx)), if_pos hx]
  · rw [if_neg (rn_ne hx hy), if_neg hx]
    have := rn_sign (s := s) hx hy
    cases s
    · rw [decide_eq_false_iff_not] at this; rw [if_neg this]; rfl
    · rw [decide_eq_true_iff] at this; rw [if_pos this]; rfl
theorem rn_abs_le {s : Bool} {x y : Nat} : (rn s x y).num.natAbs ≤ x := by
  by_cases hy : y = 0
  · rw [rn_zero (.inr hy)]; simp
  · rw [rn_abs hy]; exact Nat.div_le_self _ _
theorem rn_den_le {s : Bool} {x y : Nat} : (rn s x y).den ≤ max y 1 := by
  by_cases hy : y = 0
  · rw [rn_zero (.inr hy)]; simp; omega
  · rw [rn_den hy]; have := Nat.div_le_self y (Nat.gcd x y); omega
theorem Bd.ofLen {x p : Nat} (h : (lim x).length ≤ p) : Bd x p := by
  have h6 := val_lt (L32_lim x)
  rw [val_lim] at h6
  exact Nat.lt_of_lt_of_le h6 (Nat.pow_le_pow_right (by omega) h)
theorem Bd.num {r : Rat} {s : Bool} {x y p : Nat} (h : rn s x y = r) (hx : Bd x p) : Bd r.num.natAbs p := by
  subst h; exact hx.le rn_abs_le
theorem Bd.den {r : Rat} {s : Bool} {x y p : Nat} (h : rn s x y = r) (hy : Bd y p) (hp : 0 < p) : Bd r.den p := by
  subst h
  have h1 : Bd 1 p := Nat.lt_of_lt_of_le (by omega) (Nat.pow_le_pow_right (show 0 < 4294967296 by omega) hp)
  unfold Bd at *
  have := rn_den_le (s := s) (x := x) (y := y)
  omega
end Go.Proofs.Ytplpkojikgeamaa

namespace Go.Proofs.Ytplpkojikgeamaa
set_option maxRecDepth 20000
open Go.RowKit

/-- What a rational's struct holds: its sign, its two slices. -/
structure Rv where
  s : Bool
  A : Option Addr
  n : Nat
  c : Nat
  B : Option Addr
  m : Nat
  d : Nat

/-- It reads as the rational r, normal; its rows are not below lo. -/
structure Rt (w : World) (lo : Nat) (v : Rv) (r : Rat) : Prop where
  sign : v.s = decide (r.num < 0)
  numLen : v.n = (lim r.num.natAbs).length
  numCap : v.n ≤ v.c
  num : Row w lo v.A v.n (lim r.num.natAbs)
  denLen : v.m = (lim r.den).length
  denCap : v.m ≤ v.d
  den : Row w lo v.B v.m (lim r.den)

/-- It reads as the rational r, of at most p limbs each: any sign and rows. -/
structure Rw (w : World) (v : Rv) (r : Rat) (p : Nat) : Prop where
  numCap : v.n ≤ v.c
  denCap : v.m ≤ v.d
  numLe : v.n ≤ p
  denLe : v.m ≤ p
  rows : ∃ (a b : List Nat), Row w 0 v.A v.n a ∧ Row w 0 v.B v.m b ∧ rn v.s (val a) (val b) = r

theorem Rt.below {w w' : World} {lo : Nat} {v : Rv} {r : Rat} (h : Rt w lo v r) (hb : Below w.heap.size w w') : Rt w' lo v r :=
  ⟨h.1, h.2, h.3, h.4.below hb, h.5, h.6, h.7.below hb⟩
theorem Rt.lower {w : World} {lo lo' : Nat} {v : Rv} {r : Rat} (h : Rt w lo v r) (hl : lo' ≤ lo) : Rt w lo' v r :=
  ⟨h.1, h.2, h.3, h.4.lower hl, h.5, h.6, h.7.lower hl⟩
theorem Rw.below {w w' : World} {v : Rv} {r : Rat} {p : Nat} (h : Rw w v r p) (hb : Below w.heap.size w w') : Rw w' v r p := by
  obtain ⟨h1, h2, h3, h4, a, b, ha, hb', hr⟩ := h
  exact ⟨h1, h2, h3, h4, a, b, ha.below hb, hb'.below hb, hr⟩
theorem Rw.alloc {w : World} {v : Rv} {r : Rat} {p : Nat} (h : Rw w v r p) (o : Obj) : Rw (w.alloc o) v r p := h.below ((Below.refl _ _).alloc (Nat.le_refl _) o)
theorem Rw.more {w : World} {v : Rv} {r : Rat} {p q : Nat} (h : Rw w v r p) (hq : p ≤ q) : Rw w v r q := by
  obtain ⟨h1, h2, h3, h4, rest⟩ := h
  exact ⟨h1, h2, by omega, by omega, rest⟩
/-- How great a rational's parts are, at the most. -/
structure Sz (r : Rat) (p : Nat) : Prop where
  num : Bd r.num.natAbs p
  den : Bd r.den p
theorem Rt.rw {w : World} {lo : Nat} {v : Rv} {r : Rat} {p : Nat} (h : Rt w lo v r) (hz : Sz r p) : Rw w v r p := by
  refine ⟨h.3, h.6, by rw [h.2]; exact hz.num.len, by rw [h.5]; exact hz.den.len, _, _, h.4.lower (Nat.zero_le _), h.7.lower (Nat.zero_le _), ?_⟩
  rw [val_lim, val_lim, h.1]; exact rn_self r
theorem Rw.sz {w : World} {v : Rv} {r : Rat} {p : Nat} (h : Rw w v r p) (hp : 0 < p) : Sz r p := by
  obtain ⟨h1, h2, h3, h4, a, b, ha, hb', hr⟩ := h
  exact ⟨Bd.num hr (ha.bd h3), Bd.den hr (hb'.bd h4) hp⟩

theorem nbits_zero {x : Nat} (h : x = 0) : nbits x = 0 := by subst h; unfold nbits; rw [lim_zero]; rfl
theorem nbits_pos {x : Nat} (h : x ≠ 0) : 0 < nbits x := by
  unfold nbits
  have hl : (lim x).length ≠ 0 := by rw [lim_pos h]; simp
  rw [if_neg hl]
  have ht := lim_tr x
  unfold Tr at ht
  have h1 : dg (lim x) ((lim x).length - 1) ≠ 0 := by
    rcases ht with h | h
    · exact absurd h hl
    · exact h
  have h2 : ∀ y : Nat, y ≠ 0 → 0 < Lib.bitLen y := by
    intro y hy
    unfold Lib.bitLen
    show 0 < (if y = 0 then 0 else 1 + Lib.bitLenAux 63 (y / 2))
    rw [if_neg hy]; omega
  have := h2 _ h1
  omega

/-- A block that holds a struct of three cells. -/
def C3 (w : World) (b : Nat) (x y z : Value) : Prop := w.heap[b]? = some (.cells #[x, y, z] 24 (0, 0))
theorem C3.lt {w : World} {b : Nat} {x y z : Value} (h : C3 w b x y z) : b < w.heap.size := by
  rcases Nat.lt_or_ge b w.heap.size with h1 | h1
  · exact h1
  · have : w.heap[b]? = none := Array.getElem?_eq_none h1
    rw [C3, this] at h; cases h
theorem C3.below {w w' : World} {b : Nat} {x y z : Value} (h : C3 w b x y z) (hb : Below w.heap.size w w') : C3 w' b x y z := (hb.block b h.lt).trans h
theorem C3.at {w w' : World} {B b : Nat} {x y z : Value} (h : C3 w b x y z) (hb : Below B w w') (hB : b < B) : C3 w' b x y z := (hb.block b hB).trans h
theorem C3.new (w : World) (x y z : Value) : C3 (w.alloc (.cells #[x, y, z] 24)) w.heap.size x y z := heap_alloc_new w _
theorem C3.alloc {w : World} {b : Nat} {x y z : Value} (h : C3 w b x y z) (o : Obj) : C3 (w.alloc o) b x y z := h.below ((Below.refl _ _).alloc (Nat.le_refl _) o)
theorem C3.facts {w : World} {b : Nat} {x y z : Value} (h : C3 w b x y z) :
    w.cell? ⟨b, 0, none⟩ = some x ∧ w.cell? ⟨b, 1, none⟩ = some y ∧ w.cell? ⟨b, 2, none⟩ = some z ∧ w.frozen? ⟨b, 0, none⟩ = false ∧ w.frozen? ⟨b, 1, none⟩ = false ∧ w.frozen? ⟨b, 2, none⟩ = false := by
  have h' : w.heap[b]? = some (.cells #[x, y, z] 24 (0, 0)) := h
  refine ⟨?_, ?_, ?_, ?_, ?_, ?_⟩ <;> simp [World.cell?, World.frozen?, h']

/-- The struct at a block, written anew. -/
abbrev put3 (w : World) (b : Nat) (x y z : Value) : World := ((w.setCell ⟨b, 0, none⟩ x).setCell ⟨b, 1, none⟩ y).setCell ⟨b, 2, none⟩ z
theorem C3.set0 {w : World} {b : Nat} {p q r : Value} (h : C3 w b p q r) (x : Value) : C3 (w.setCell ⟨b, 0, none⟩ x) b x q r := by
  have h' : w.heap[b]? = some (.cells #[p, q, r] 24 (0, 0)) := h
  show (w.heap.modify b _)[b]? = _
  rw [Array.getElem?_modify, if_pos rfl, h']; rfl
theorem C3.set1 {w : World} {b : Nat} {p q r : Value} (h : C3 w b p q r) (x : Value) : C3 (w.setCell ⟨b, 1, none⟩ x) b p x r := by
  have h' : w.heap[b]? = some (.cells #[p, q, r] 24 (0, 0)) := h
  show (w.heap.modify b _)[b]? = _
  rw [Array.getElem?_modify, if_pos rfl, h']; rfl
theorem C3.set2 {w : World} {b : Nat} {p q r : Value} (h : C3 w b p q r) (x : Value) : C3 (w.setCell ⟨b, 2, none⟩ x) b p q x := by
  have h' : w.heap[b]? = some (.cells #[p, q, r] 24 (0, 0)) := h
  show (w.heap.modify b _)[b]? = _
  rw [Array.getElem?_modify, if_pos rfl, h']; rfl
theorem C3.put {w : World} {b : Nat} {p q r : Value} (h : C3 w b p q r) (x y z : Value) : C3 (put3 w b x y z) b x y z := ((h.set0 x).set1 y).set2 z
theorem put3_below {w : World} {b B : Nat} (hB : B ≤ b) (x y z : Value) : Below B w (put3 w b x y z) := by
  have h1 : ∀ (w : World) (j : Nat) (x : Value), Below B w (w.setCell ⟨b, j, none⟩ x) := fun w j x => (Below.refl B w).setCell (by simpa using hB) x
  exact ((h1 _ _ _).trans (h1 _ _ _)).trans (h1 _ _ _)
theorem C3.setOther {w : World} {b b' : Nat} {x' y' z' : Value} (h : C3 w b' x' y' z') (hne : b' ≠ b) (j : Nat) (x : Value) : C3 (w.setCell ⟨b, j, none⟩ x) b' x' y' z' := by
  have h' : w.heap[b']? = some (.cells #[x', y', z'] 24 (0, 0)) := h
  show (w.heap.modify b _)[b']? = _
  rw [Array.getElem?_modify, if_neg (Ne.symm hne), h']
theorem C3.putOther {w : World} {b b' : Nat} {x' y' z' : Value} (h : C3 w b' x' y' z') (hne : b' ≠ b) (x y z : Value) : C3 (put3 w b x y z) b' x' y' z' :=
  ((h.setOther hne _ _).setOther hne _ _).setOther hne _ _
theorem Row.put {w : World} {lo n b : Nat} {A : Option Addr} {l : List Nat} (h : Row w lo A n l) (hb : b < lo) (x y z : Value) : Row (put3 w b x y z) lo A n l := by
  have h1 : ∀ (w : World) (j : Nat) (x : Value), Row w lo A n l → Row (w.setCell ⟨b, j, none⟩ x) lo A n l := by
    intro w j x h
    refine ⟨h.len, h.l32, fun hn => ?_⟩
    obtain ⟨b', off, e, h1, h2, hc⟩ := h.mem hn
    refine ⟨b', off, e, h1, by simpa using h2, fun j' hj => ?_⟩
    rw [World.cell?_setCell_other w _ _ x (by intro e; injection e; omega)]
    exact hc j' hj
  exact h1 _ _ _ (h1 _ _ _ (h1 _ _ _ h))
theorem Rt.put {w : World} {lo b : Nat} {v : Rv} {r : Rat} (h : Rt w lo v r) (hb : b < lo) (x y z : Value) : Rt (put3 w b x y z) lo v r :=
  ⟨h.1, h.2, h.3, h.4.put hb x y z, h.5, h.6, h.7.put hb x y z⟩
theorem Row.apart {w : World} {lo n b : Nat} {A : Option Addr} {l : List Nat} (h : Row w lo A n l) {v : Rv} (k : C3 w b (.bool v.s) (.slice v.A v.n v.c) (.slice v.B v.m v.d)) (hn : 0 < n) : ∃ b' off, A = some ⟨b', off, none⟩ ∧ b' ≠ b := by
  obtain ⟨b', off, e, h1, h2, hc⟩ := h.mem hn
  refine ⟨b', off, e, fun hbb => ?_⟩
  subst hbb
  have h' : w.heap[b']? = some (.cells #[.bool v.s, .slice v.A v.n v.c, .slice v.B v.m v.d] 24 (0, 0)) := k
  have h0 := hc 0 hn
  rw [Nat.add_zero] at h0
  rcases Nat.lt_or_ge off 3 with h3 | h3
  · have : off = 0 ∨ off = 1 ∨ off = 2 := by omega
    rcases this with rfl | rfl | rfl <;> simp [World.cell?, h'] at h0
  · have hn : (#[Value.bool v.s, .slice v.A v.n v.c, .slice v.B v.m v.d] : Array Value)[off]? = none := Array.getElem?_eq_none (by simpa using h3)
    simp [World.cell?, h', hn] at h0
theorem Row.putC {w : World} {lo n b : Nat} {A : Option Addr} {l : List Nat} (h : Row w lo A n l) {v : Rv} (k : C3 w b (.bool v.s) (.slice v.A v.n v.c) (.slice v.B v.m v.d)) (x y z : Value) : Row (put3 w b x y z) lo A n l := by
  by_cases hn : 0 < n
  · obtain ⟨b', off, e, hne⟩ := h.apart k hn
    have hs : ∀ ad, A = some ad → ad.block ≠ b := by intro ad ea; rw [e] at ea; injection ea with ea; subst ea; exact hne
    exact ((h.set _ hs).set _ hs).set _ hs
  · have h0 : n = 0 := by omega
    subst h0
    exact ⟨h.len, h.l32, fun h => absurd h (by omega)⟩
theorem Rw.putC {w : World} {b p : Nat} {r : Rat} {u : Rv} (h : Rw w u r p) {v : Rv} (k : C3 w b (.bool v.s) (.slice v.A v.n v.c) (.slice v.B v.m v.d)) (x y z : Value) : Rw (put3 w b x y z) u r p := by
  obtain ⟨h1, h2, h3, h4, a, b', ha, hb', hr⟩ := h
  exact ⟨h1, h2, h3, h4, a, b', ha.putC k x y z, hb'.putC k x y z, hr⟩
theorem Rt.putC {w : World} {lo b : Nat} {r : Rat} {u : Rv} (h : Rt w lo u r) {v : Rv} (k : C3 w b (.bool v.s) (.slice v.A v.n v.c) (.slice v.B v.m v.d)) (x y z : Value) : Rt (put3 w b x y z) lo u r :=
  ⟨h.1, h.2, h.3, h.4.putC k x y z, h.5, h.6, h.7.putC k x y z⟩
theorem ret3c {fn : Func} {t : Tmp} {R : Ending → World → Prop} {a : Act} {w : World} {b : Nat} {x y z : Value} (hres : fn.results = #[.cell t 24]) (ht : a.tmps.getD t undef = .pointer (some ⟨b, 0, none⟩)) (hd : a.defers = [])
    (hk : C3 w b x y z) (hR : R (.returned (.agg #[x, y, z])) w) : bodyPost Try.prog fn R .ret a w := by
  obtain ⟨q0, q1, q2, g0, g1, g2⟩ := hk.facts
  have ht' : (a.tmps[t]?.getD undef) = .pointer (some ⟨b, 0, none⟩) := by simpa using ht
  refine bodyPost_ret (v := .agg #[x, y, z]) ?_ hd hR
  simp [results, hres, go_sem, ht', q0, q1, q2]
theorem ret3 {fn : Func} {t : Tmp} {R : Ending → World → Prop} {a : Act} {w : World} {b : Nat} {p q r x y z : Value} (hres : fn.results = #[.cell t 24]) (ht : a.tmps.getD t undef = .pointer (some ⟨b, 0, none⟩)) (hd : a.defers = [])
    (hk : C3 w b p q r) (hR : R (.returned (.agg #[x, y, z])) (put3 w b x y z)) : bodyPost Try.prog fn R .ret a (put3 w b x y z) := ret3c hres ht hd (hk.put x y z) hR

set_option maxHeartbeats 400000 in
theorem isNought_yes (A : Option Addr) (n c : Nat) (a : List Nat) (w : World) (hn : n ≤ 100000) (hcn : n ≤ c) (ha : Row w 0 A n a) (h : val a = 0) :
    Calls Try.prog 41 #[.slice A n c] w fun e w' => e = .returned (.bool true) ∧ w = w' := by
  have hz := nbits_zero h
  go_enter Try.func41, Try.ntmps41
  go_wp2_with fail
  refine (Bits_any A n c a _ hn hcn ha).mono ?_
  rintro e w' ⟨rfl, rfl⟩
  rw [hz]
  go_wp2
  go_ret
  exact ⟨rfl, rfl⟩
set_option maxHeartbeats 400000 in
theorem isNought_no (A : Option Addr) (n c : Nat) (a : List Nat) (w : World) (hn : n ≤ 100000) (hcn : n ≤ c) (ha : Row w 0 A n a) (h : val a ≠ 0) :
    Calls Try.prog 41 #[.slice A n c] w fun e w' => e = .returned (.bool false) ∧ w = w' := by
  have hz := nbits_pos h
  go_enter Try.func41, Try.ntmps41
  go_wp2_with fail
  refine (Bits_any A n c a _ hn hcn ha).mono ?_
  rintro e w' ⟨rfl, rfl⟩
  have hb : ((nbits (val a) : Nat) : Int) ≠ 0 := by omega
  have hb2 : (((nbits (val a) : Nat) : Int) == 0) = false := by rw [beq_eq_false_iff_ne]; exact hb
  go_wp2
  go_ret
  exact ⟨rfl, rfl⟩

set_option maxHeartbeats 400000 in
theorem one_any (w : World) :
    Calls Try.prog 43 #[] w fun e w' => ∃ A c, e = .returned (.slice A (lim 1).length c) ∧ Own w' w.heap.size A c (lim 1).length (lim 1) ∧ Below w.heap.size w w' := by
  go_enter Try.func43, Try.ntmps43
  go_wp2_with fail
  refine (Of_any 1 _ (by omega)).mono ?_
  rintro e w' ⟨A, c, rfl, ho, hb⟩
  go_wp2
  go_ret
  exact ⟨A, c, rfl, ho, hb⟩

theorem Rt.nought {w : World} {lo : Nat} {A : Option Addr} {c : Nat} (ho : Row w lo A (lim 1).length (lim 1)) (hc : (lim 1).length ≤ c) : Rt w lo ⟨false, none, 0, 0, A, (lim 1).length, c⟩ 0 :=
  ⟨rfl, by rw [show (0 : Rat).num.natAbs = 0 from rfl, lim_zero]; rfl, Nat.le_refl _, by rw [show (0 : Rat).num.natAbs = 0 from rfl, lim_zero]; exact Row.nil_ _ _ _, rfl, hc, ho⟩

set_option maxHeartbeats 400000 in
theorem nought_any (w : World) :
    Calls Try.prog 31 #[] w fun e w' => ∃ v : Rv, e = .returned (.agg #[.bool v.s, .slice v.A v.n v.c, .slice v.B v.m v.d]) ∧ Rt w' w.heap.size v 0 ∧ Below w.heap.size w w' := by
  go_enter Try.func31, Try.ntmps31
  go_wp2_with fail
  refine (one_any _).mono ?_
  rintro e w' ⟨A, c, rfl, ho, hb⟩
  have hb0 := (((Below.refl w.heap.size w).alloc (Nat.le_refl _) _).trans (hb.mono (by simp)))
  have hr := ho.row
  have hcc := ho.capLe
  have k := (C3.new w (.bool false) (.slice none 0 0) (.slice none 0 0)).at hb (by simp)
  clear ho hb
  obtain ⟨q0, q1, q2, g0, g1, g2⟩ := k.facts
  go_wp2
  refine ret3 (fn := Try.f31) Try.results31 rfl rfl k ?_
  exact ⟨⟨_, _, _, _, _, _, _⟩, rfl, (Rt.nought (hr.put (by simp) _ _ _) hcc).lower (by simp), hb0.trans (put3_below (Nat.le_refl _) _ _ _)⟩
end Go.Proofs.Ytplpkojikgeamaa

namespace Go.Proofs.Ytplpkojikgeamaa
set_option maxRecDepth 20000
open Go.RowKit

set_option maxHeartbeats 400000 in
theorem quotient_any (A B : Option Addr) (n m c d x y : Nat) (a b : List Nat) (w : World) (hn : n ≤ 40000) (hm : m ≤ 40000) (hcn : n ≤ c) (hdm : m ≤ d) (ha : Row w 0 A n a) (hb : Row w 0 B m b) (hx : val a = x) (hy : val b = y) (h0 : 0 < y) :
    Calls Try.prog 60 #[.slice A n c, .slice B m d] w fun e w' => ∃ X cx, e = .returned (.slice X (lim (x / y)).length cx) ∧ Own w' w.heap.size X cx (lim (x / y)).length (lim (x / y)) ∧ Below w.heap.size w w' := by
  go_enter Try.func60, Try.ntmps60
  go_wp2_with fail
  refine (DivMod_pos A B n m c d x y a b _ hn hm hcn hdm ha hb hx hy h0).mono ?_
  rintro e w' ⟨X, cx, Y, cy, rfl, ho, _, hbl⟩
  go_wp2
  go_ret
  exact ⟨X, cx, rfl, ho, hbl⟩

set_option maxHeartbeats 800000 in
theorem Of_zero1 (s : Bool) (A B : Option Addr) (n m c d : Nat) (a : List Nat) (w : World) (hn : n ≤ 9000) (hcn : n ≤ c) (ha : Row w 0 A n a) (h : val a = 0) :
    Calls Try.prog 32 #[.bool s, .slice A n c, .slice B m d] w fun e w' => ∃ v : Rv, e = .returned (.agg #[.bool v.s, .slice v.A v.n v.c, .slice v.B v.m v.d]) ∧ Rt w' w.heap.size v 0 ∧ Below w.heap.size w w' := by
  go_enter Try.func32, Try.ntmps32
  go_wp2_with fail
  refine (isNought_yes A n c a _ (by omega) hcn (ha.alloc _) h).mono ?_
  rintro e w' ⟨rfl, rfl⟩
  go_wp2_with fail
  refine (nought_any _).mono ?_
  rintro e w1 ⟨v, rfl, hr, hb⟩
  have k := (C3.new w (.bool false) (.slice none 0 0) (.slice none 0 0)).at hb (by simp)
  have hb0 := (((Below.refl w.heap.size w).alloc (Nat.le_refl _) _).trans (hb.mono (by simp)))
  clear hb ha
  obtain ⟨q0, q1, q2, g0, g1, g2⟩ := k.facts
  go_wp2
  refine ret3 (fn := Try.f32) Try.results32 rfl rfl k ?_
  exact ⟨v, rfl, (hr.put (by simp) _ _ _).lower (by simp), hb0.trans (put3_below (Nat.le_refl _) _ _ _)⟩

set_option maxHeartbeats 800000 in
theorem Of_zero2 (s : Bool) (A B : Option Addr) (n m c d : Nat) (a b : List Nat) (w : World) (hn : n ≤ 9000) (hm : m ≤ 9000) (hcn : n ≤ c) (hdm : m ≤ d) (ha : Row w 0 A n a) (hb : Row w 0 B m b) (h : val a ≠ 0) (h' : val b = 0) :
    Calls Try.prog 32 #[.bool s, .slice A n c, .slice B m d] w fun e w' => ∃ v : Rv, e = .returned (.agg #[.bool v.s, .slice v.A v.n v.c, .slice v.B v.m v.d]) ∧ Rt w' w.heap.size v 0 ∧ Below w.heap.size w w' := by
  go_enter Try.func32, Try.ntmps32
  go_wp2_with fail
  refine (isNought_no A n c a _ (by omega) hcn (ha.alloc _) h).mono ?_
  rintro e w' ⟨rfl, rfl⟩
  go_wp2_with fail
  refine (isNought_yes B m d b _ (by omega) hdm (hb.alloc _) h').mono ?_
  rintro e w' ⟨rfl, rfl⟩
  go_wp2_with fail
  refine (nought_any _).mono ?_
  rintro e w1 ⟨v, rfl, hr, hb⟩
  have k := (C3.new w (.bool false) (.slice none 0 0) (.slice none 0 0)).at hb (by simp)
  have hb0 := (((Below.refl w.heap.size w).alloc (Nat.le_refl _) _).trans (hb.mono (by simp)))
  clear hb ha
  obtain ⟨q0, q1, q2, g0, g1, g2⟩ := k.facts
  go_wp2
  refine ret3 (fn := Try.f32) Try.results32 rfl rfl k ?_
  exact ⟨v, rfl, (hr.put (by simp) _ _ _).lower (by simp), hb0.trans (put3_below (Nat.le_refl _) _ _ _)⟩

theorem Rt.parts {w : World} {lo : Nat} {s : Bool} {x y : Nat} {v : Rv} (hx : x ≠ 0) (hy : y ≠ 0) (hs : v.s = s) (hn : v.n = (lim (x / Nat.gcd x y)).length) (hm : v.m = (lim (y / Nat.gcd x y)).length) (hc : v.n ≤ v.c) (hd : v.m ≤ v.d)
    (h1 : Row w lo v.A v.n (lim (x / Nat.gcd x y))) (h2 : Row w lo v.B v.m (lim (y / Nat.gcd x y))) : Rt w lo v (rn s x y) := by
  refine ⟨by rw [rn_sign hx hy]; exact hs, ?_, hc, ?_, ?_, hd, ?_⟩
  · rw [rn_abs hy]; exact hn
  · rw [rn_abs hy]; exact h1
  · rw [rn_den hy]; exact hm
  · rw [rn_den hy]; exact h2

set_option maxHeartbeats 1600000 in
theorem Of_pos (s : Bool) (A B : Option Addr) (n m c d : Nat) (a b : List Nat) (w : World) (hn : n ≤ 9000) (hm : m ≤ 9000) (hcn : n ≤ c) (hdm : m ≤ d) (ha : Row w 0 A n a) (hb : Row w 0 B m b) (h : val a ≠ 0) (h' : val b ≠ 0) :
    Calls Try.prog 32 #[.bool s, .slice A n c, .slice B m d] w fun e w' => ∃ v : Rv, e = .returned (.agg #[.bool v.s, .slice v.A v.n v.c, .slice v.B v.m v.d]) ∧ Rt w' w.heap.size v (rn s (val a) (val b)) ∧ Below w.heap.size w w' := by
  have hg : 0 < Nat.gcd (val a) (val b) := Nat.gcd_pos_of_pos_left _ (Nat.pos_of_ne_zero h)
  have hgl : (lim (Nat.gcd (val a) (val b))).length ≤ 9000 := ((ha.bd hn).le (Nat.gcd_le_left _ (Nat.pos_of_ne_zero h))).len
  go_enter Try.func32, Try.ntmps32
  go_wp2_with fail
  refine (isNought_no A n c a _ (by omega) hcn (ha.alloc _) h).mono ?_
  rintro e w' ⟨rfl, rfl⟩
  go_wp2_with fail
  refine (isNought_no B m d b _ (by omega) hdm (hb.alloc _) h').mono ?_
  rintro e w' ⟨rfl, rfl⟩
  go_wp2_with fail
  refine (Gcd_any A B n m c d (val a) (val b) a b _ (by omega) (by omega) hcn hdm (ha.alloc _) (hb.alloc _) rfl rfl).mono ?_
  rintro e w1 ⟨X, cx, rfl, hcx, hrx, hb1⟩
  have k := (C3.new w (.bool false) (.slice none 0 0) (.slice none 0 0)).at hb1 (by simp)
  have HB := (((Below.refl w.heap.size w).alloc (Nat.le_refl _) _).trans (hb1.mono (by simp)))
  clear hb1
  go_wp2_with fail
  refine (quotient_any A X n _ c cx (val a) _ a _ _ (by omega) (by omega) hcn hcx (ha.below HB) hrx rfl (val_lim _) hg).mono ?_
  rintro e w2 ⟨Y, cy, rfl, hoy, hb2⟩
  have hlt1 := k.lt
  replace k := k.below hb2
  replace HB := HB.trans (hb2.mono HB.size)
  have hs1 := hb2.size
  have hrx2 := hrx.below hb2
  have hry := hoy.row
  have hcy := hoy.capLe
  clear hrx hoy hb2
  go_wp2_with fail
  refine (quotient_any B X m _ d cx (val b) _ b _ _ (by omega) (by omega) hdm hcx (hb.below HB) hrx2 rfl (val_lim _) hg).mono ?_
  rintro e w3 ⟨Z, cz, rfl, hoz, hb3⟩
  replace k := k.below hb3
  replace hry := hry.below hb3
  have hrz := hoz.row
  have hcz := hoz.capLe
  have hs2 := hb3.size
  replace HB := HB.trans (hb3.mono HB.size)
  clear hoz hb3 hrx2
  obtain ⟨q0, q1, q2, g0, g1, g2⟩ := k.facts
  go_wp2
  refine ret3 (fn := Try.f32) Try.results32 rfl rfl k ?_
  refine ⟨⟨_, _, _, _, _, _, _⟩, rfl, ?_, HB.trans (put3_below (Nat.le_refl _) _ _ _)⟩
  refine Rt.lower (lo := w.heap.size + 1) ?_ (by omega)
  exact Rt.parts h h' rfl rfl rfl hcy hcz ((hry.lower (by omega)).put (by omega) _ _ _) ((hrz.lower (by omega)).put (by omega) _ _ _)
end Go.Proofs.Ytplpkojikgeamaa

namespace Go.Proofs.Ytplpkojikgeamaa
set_option maxRecDepth 20000
open Go.RowKit

theorem Of_rows (s : Bool) (A B : Option Addr) (n m c d : Nat) (a b : List Nat) (r : Rat) (w : World) (hn : n ≤ 9000) (hm : m ≤ 9000) (hcn : n ≤ c) (hdm : m ≤ d) (ha : Row w 0 A n a) (hb : Row w 0 B m b) (hr : rn s (val a) (val b) = r) :
    Calls Try.prog 32 #[.bool s, .slice A n c, .slice B m d] w fun e w' => ∃ v : Rv, e = .returned (.agg #[.bool v.s, .slice v.A v.n v.c, .slice v.B v.m v.d]) ∧ Rt w' w.heap.size v r ∧ Below w.heap.size w w' := by
  subst hr
  by_cases h : val a = 0
  · rw [rn_zero (.inl h)]; exact Of_zero1 s A B n m c d a w hn hcn ha h
  · by_cases h' : val b = 0
    · rw [rn_zero (.inr h')]; exact Of_zero2 s A B n m c d a b w hn hm hcn hdm ha hb h h'
    · exact Of_pos s A B n m c d a b w hn hm hcn hdm ha hb h h'
theorem Of_nums (s : Bool) (A B : Option Addr) (n m c d x y : Nat) (a b : List Nat) (r : Rat) (w : World) (hx : val a = x) (hy : val b = y) (hn : n ≤ 9000) (hm : m ≤ 9000) (hcn : n ≤ c) (hdm : m ≤ d) (ha : Row w 0 A n a) (hb : Row w 0 B m b) (hr : rn s x y = r) :
    Calls Try.prog 32 #[.bool s, .slice A n c, .slice B m d] w fun e w' => ∃ v : Rv, e = .returned (.agg #[.bool v.s, .slice v.A v.n v.c, .slice v.B v.m v.d]) ∧ Rt w' w.heap.size v r ∧ Below w.heap.size w w' := by
  subst hx hy; exact Of_rows s A B n m c d a b r w hn hm hcn hdm ha hb hr

set_option maxHeartbeats 400000 in
theorem Norm_any (v : Rv) (r : Rat) (w : World) (hv : Rw w v r 5000) :
    Calls Try.prog 12 #[.agg #[.bool v.s, .slice v.A v.n v.c, .slice v.B v.m v.d]] w fun e w' => ∃ v : Rv, e = .returned (.agg #[.bool v.s, .slice v.A v.n v.c, .slice v.B v.m v.d]) ∧ Rt w' w.heap.size v r ∧ Below w.heap.size w w' := by
  obtain ⟨h1, h2, h3, h4, a, b, ha, hb, hr⟩ := hv
  go_enter Try.func12, Try.ntmps12
  go_wp2_with fail
  refine (Of_rows v.s v.A v.B v.n v.m v.c v.d a b r _ (by omega) (by omega) h1 h2 ((ha.alloc _).alloc _) ((hb.alloc _).alloc _) hr).mono ?_
  rintro e w1 ⟨u, rfl, hu, hbl⟩
  have k := ((C3.new (w.alloc (.cells #[.bool v.s, .slice v.A v.n v.c, .slice v.B v.m v.d] 24)) (.bool false) (.slice none 0 0) (.slice none 0 0))).at hbl (by simp)
  have HB := ((((Below.refl w.heap.size w).alloc (Nat.le_refl _) _).alloc (by simp) _).trans (hbl.mono (by simp; omega)))
  have e1 : (w.alloc (.cells #[.bool v.s, .slice v.A v.n v.c, .slice v.B v.m v.d] 24)).heap.size = w.heap.size + 1 := by simp
  rw [e1] at k
  obtain ⟨q0, q1, q2, g0, g1, g2⟩ := k.facts
  clear hbl ha hb
  go_wp2
  refine ret3 (fn := Try.f12) Try.results12 rfl rfl k ?_
  exact ⟨_, rfl, (hu.put (by simp) _ _ _).lower (by simp; omega), HB.trans (put3_below (by omega) _ _ _)⟩

set_option maxHeartbeats 400000 in
theorem Zero_any (v : Rv) (r : Rat) (w : World) (hv : Rw w v r 5000) :
    Calls Try.prog 30 #[.agg #[.bool v.s, .slice v.A v.n v.c, .slice v.B v.m v.d]] w fun e w' => e = .returned (.bool (decide (r = 0))) ∧ Below w.heap.size w w' := by
  obtain ⟨h1, h2, h3, h4, a, b, ha, hb, hr⟩ := hv
  subst hr
  have HB := ((Below.refl w.heap.size w).alloc (Nat.le_refl _) (.cells #[.bool v.s, .slice v.A v.n v.c, .slice v.B v.m v.d] 24))
  by_cases h : val a = 0
  · rw [decide_eq_true (rn_zero (.inl h))]
    go_enter Try.func30, Try.ntmps30
    go_wp2_with fail
    refine (isNought_yes v.A v.n v.c a _ (by omega) h1 (ha.below HB) h).mono ?_
    rintro e w' ⟨rfl, rfl⟩
    go_wp2
    go_ret
    exact ⟨rfl, HB⟩
  · by_cases h' : val b = 0
    · rw [decide_eq_true (rn_zero (.inr h'))]
      go_enter Try.func30, Try.ntmps30
      go_wp2_with fail
      refine (isNought_no v.A v.n v.c a _ (by omega) h1 (ha.below HB) h).mono ?_
      rintro e w' ⟨rfl, rfl⟩
      go_wp2_with fail
      refine (isNought_yes v.B v.m v.d b _ (by omega) h2 (hb.below HB) h').mono ?_
      rintro e w' ⟨rfl, rfl⟩
      go_wp2
      go_ret
      exact ⟨rfl, HB⟩
    · rw [decide_eq_false (rn_ne h h')]
      go_enter Try.func30, Try.ntmps30
      go_wp2_with fail
      refine (isNought_no v.A v.n v.c a _ (by omega) h1 (ha.below HB) h).mono ?_
      rintro e w' ⟨rfl, rfl⟩
      go_wp2_with fail
      refine (isNought_no v.B v.m v.d b _ (by omega) h2 (hb.below HB) h').mono ?_
      rintro e w' ⟨rfl, rfl⟩
      go_wp2
      go_ret
      exact ⟨rfl, HB⟩

set_option maxHeartbeats 400000 in
theorem turned_any (v : Rv) (r : Rat) (p : Nat) (w : World) (hv : Rw w v r p) :
    Calls Try.prog 65 #[.agg #[.bool v.s, .slice v.A v.n v.c, .slice v.B v.m v.d]] w fun e w' => ∃ v : Rv, e = .returned (.agg #[.bool v.s, .slice v.A v.n v.c, .slice v.B v.m v.d]) ∧ Rw w' v (-r) p ∧ Below w.heap.size w w' := by
  have HB := ((Below.refl w.heap.size w).alloc (Nat.le_refl _) (.cells #[.bool v.s, .slice v.A v.n v.c, .slice v.B v.m v.d] 24))
  go_enter Try.func65, Try.ntmps65
  go_wp2
  have k := C3.new (w.alloc (.cells #[.bool !v.s, .slice v.A v.n v.c, .slice v.B v.m v.d] 24)) (.bool !v.s) (.slice v.A v.n v.c) (.slice v.B v.m v.d)
  have e1 : (w.alloc (.cells #[.bool !v.s, .slice v.A v.n v.c, .slice v.B v.m v.d] 24)).heap.size = w.heap.size + 1 := by simp
  rw [e1] at k
  have HB := (((Below.refl w.heap.size w).alloc (Nat.le_refl _) (.cells #[.bool !v.s, .slice v.A v.n v.c, .slice v.B v.m v.d] 24))).alloc (by simp) (.cells #[.bool !v.s, .slice v.A v.n v.c, .slice v.B v.m v.d] 24)
  refine ret3c (fn := Try.f65) Try.results65 rfl rfl k ?_
  obtain ⟨h1, h2, h3, h4, a, b, ha, hb, hr⟩ := hv
  exact ⟨⟨!v.s, v.A, v.n, v.c, v.B, v.m, v.d⟩, rfl, ⟨h1, h2, h3, h4, a, b, ha.below HB, hb.below HB, by rw [← rn_neg, hr]⟩, HB⟩

/-- It reads as r, and its second row is not 0. -/
structure Rd (w : World) (v : Rv) (r : Rat) (p : Nat) : Prop where
  numCap : v.n ≤ v.c
  denCap : v.m ≤ v.d
  numLe : v.n ≤ p
  denLe : v.m ≤ p
  rows : ∃ (a b : List Nat), Row w 0 v.A v.n a ∧ Row w 0 v.B v.m b ∧ rn v.s (val a) (val b) = r ∧ val b ≠ 0
theorem Rd.below {w w' : World} {v : Rv} {r : Rat} {p : Nat} (h : Rd w v r p) (hb : Below w.heap.size w w') : Rd w' v r p := by
  obtain ⟨h1, h2, h3, h4, a, b, ha, hb', hr⟩ := h
  exact ⟨h1, h2, h3, h4, a, b, ha.below hb, hb'.below hb, hr⟩
theorem Rt.rd {w : World} {lo : Nat} {v : Rv} {r : Rat} {p : Nat} (h : Rt w lo v r) (hz : Sz r p) : Rd w v r p := by
  refine ⟨h.3, h.6, by rw [h.2]; exact hz.num.len, by rw [h.5]; exact hz.den.len, _, _, h.4.lower (Nat.zero_le _), h.7.lower (Nat.zero_le _), ?_, ?_⟩
  · rw [val_lim, val_lim, h.1]; exact rn_self r
  · rw [val_lim]; exact r.den_nz
theorem Sz.zero {p : Nat} (hp : 0 < p) : Sz 0 p := by
  have h1 : 4294967296 ^ 1 ≤ 4294967296 ^ p := Nat.pow_le_pow_right (by omega) hp
  exact ⟨show 0 < 4294967296 ^ p by omega, show 1 < 4294967296 ^ p by omega⟩

set_option maxHeartbeats 400000 in
theorem withDenominator_any (v : Rv) (r : Rat) (p : Nat) (w : World) (hv : Rw w v r p) (hp : p ≤ 5000) (hp0 : 0 < p) :
    Calls Try.prog 66 #[.agg #[.bool v.s, .slice v.A v.n v.c, .slice v.B v.m v.d]] w fun e w' => ∃ v : Rv, e = .returned (.agg #[.bool v.s, .slice v.A v.n v.c, .slice v.B v.m v.d]) ∧ Rd w' v r p ∧ Below w.heap.size w w' := by
  obtain ⟨h1, h2, h3, h4, a, b, ha, hb, hr⟩ := hv
  have HA := ((Below.refl w.heap.size w).alloc (Nat.le_refl _) (.cells #[.bool v.s, .slice v.A v.n v.c, .slice v.B v.m v.d] 24)).alloc (by simp) (.cells #[.bool false, .slice none 0 0, .slice none 0 0] 24)
  have e1 : (w.alloc (.cells #[.bool v.s, .slice v.A v.n v.c, .slice v.B v.m v.d] 24)).heap.size = w.heap.size + 1 := by simp
  by_cases h : val b = 0
  · have hr0 : r = 0 := by rw [← hr]; exact rn_zero (.inr h)
    go_enter Try.func66, Try.ntmps66
    go_wp2_with fail
    refine (isNought_yes v.B v.m v.d b _ (by omega) h2 (hb.below HA) h).mono ?_
    rintro e w' ⟨rfl, rfl⟩
    go_wp2_with fail
    refine (nought_any _).mono ?_
    rintro e w1 ⟨u, rfl, hu, hbl⟩
    have k := ((C3.new (w.alloc (.cells #[.bool v.s, .slice v.A v.n v.c, .slice v.B v.m v.d] 24)) (.bool false) (.slice none 0 0) (.slice none 0 0))).at hbl (by simp)
    rw [e1] at k
    have HB := HA.trans (hbl.mono (by simp; omega))
    obtain ⟨q0, q1, q2, g0, g1, g2⟩ := k.facts
    clear hbl ha hb
    go_wp2
    refine ret3 (fn := Try.f66) Try.results66 rfl rfl k ?_
    refine ⟨u, rfl, ?_, HB.trans (put3_below (by omega) _ _ _)⟩
    rw [hr0]
    exact (hu.put (by simp) _ _ _).rd (Sz.zero hp0)
  · go_enter Try.func66, Try.ntmps66
    go_wp2_with fail
    refine (isNought_no v.B v.m v.d b _ (by omega) h2 (hb.below HA) h).mono ?_
    rintro e w' ⟨rfl, rfl⟩
    go_wp2
    have k := C3.new (w.alloc (.cells #[.bool v.s, .slice v.A v.n v.c, .slice v.B v.m v.d] 24)) (.bool v.s) (.slice v.A v.n v.c) (.slice v.B v.m v.d)
    rw [e1] at k
    refine ret3c (fn := Try.f66) Try.results66 rfl rfl k ?_
    have HB := ((Below.refl w.heap.size w).alloc (Nat.le_refl _) (.cells #[.bool v.s, .slice v.A v.n v.c, .slice v.B v.m v.d] 24)).alloc (by simp) (.cells #[.bool v.s, .slice v.A v.n v.c, .slice v.B v.m v.d] 24)
    exact ⟨v, rfl, ⟨h1, h2, h3, h4, a, b, ha.below HB, hb.below HB, hr, h⟩, HB⟩

theorem rn_int_eq (i : Int) (s : Bool) (x : Nat) (h : (if s then -(x : Int) else (x : Int)) = i) : rn s x 1 = (i : Rat) := by rw [rn_int, h]

end Go.Proofs.Ytplpkojikgeamaa

namespace Go.Proofs.Ytplpkojikgeamaa
set_option maxRecDepth 20000
open Go.RowKit

set_option maxHeartbeats 400000 in
theorem addSigned_same (s : Bool) (A B : Option Addr) (n m c d : Nat) (a b : List Nat) (w : World) (hn : n ≤ 20000) (hm : m ≤ 20000) (hcn : n ≤ c) (hdm : m ≤ d) (ha : Row w 0 A n a) (hb : Row w 0 B m b) :
    Calls Try.prog 67 #[.bool s, .slice A n c, .bool s, .slice B m d] w fun e w' => ∃ X cx, e = .returned (.tuple #[.bool s, .slice X (lim (val a + val b)).length cx]) ∧ Own w' w.heap.size X cx (lim (val a + val b)).length (lim (val a + val b)) ∧ Below w.heap.size w w' := by
  go_enter Try.func67, Try.ntmps67
  go_wp2_with fail
  refine (Add_any A B n m c d a b _ (by omega) (by omega) hcn hdm ha hb).mono ?_
  rintro e w1 ⟨X, cx, rfl, ho, hb1⟩
  go_wp2
  go_ret2
  exact ⟨X, cx, rfl, ho, hb1⟩
set_option maxHeartbeats 400000 in
theorem addSigned_less (s t : Bool) (A B : Option Addr) (n m c d : Nat) (a b : List Nat) (w : World) (hst : t = !s) (hn : n ≤ 20000) (hm : m ≤ 20000) (hcn : n ≤ c) (hdm : m ≤ d) (ha : Row w 0 A n a) (hb : Row w 0 B m b) (hle : val b ≤ val a) :
    Calls Try.prog 67 #[.bool s, .slice A n c, .bool t, .slice B m d] w fun e w' => ∃ X cx, e = .returned (.tuple #[.bool s, .slice X (lim (val a - val b)).length cx]) ∧ Own w' w.heap.size X cx (lim (val a - val b)).length (lim (val a - val b)) ∧ Below w.heap.size w w' := by
  subst hst
  have hs : (s == !s) = false := by cases s <;> rfl
  go_enter Try.func67, Try.ntmps67
  go_wp2_with fail
  refine (Sub_yes A B n m c d a b _ (by omega) (by omega) hcn hdm ha hb hle).mono ?_
  rintro e w1 ⟨X, cx, rfl, ho, hb1⟩
  go_wp2
  go_ret2
  exact ⟨X, cx, rfl, ho, hb1⟩
set_option maxHeartbeats 400000 in
theorem addSigned_more (s t : Bool) (A B : Option Addr) (n m c d : Nat) (a b : List Nat) (w : World) (hst : t = !s) (hn : n ≤ 20000) (hm : m ≤ 20000) (hcn : n ≤ c) (hdm : m ≤ d) (ha : Row w 0 A n a) (hb : Row w 0 B m b) (hlt : val a < val b) :
    Calls Try.prog 67 #[.bool s, .slice A n c, .bool t, .slice B m d] w fun e w' => ∃ X cx, e = .returned (.tuple #[.bool t, .slice X (lim (val b - val a)).length cx]) ∧ Own w' w.heap.size X cx (lim (val b - val a)).length (lim (val b - val a)) ∧ Below w.heap.size w w' := by
  subst hst
  have hs : (s == !s) = false := by cases s <;> rfl
  go_enter Try.func67, Try.ntmps67
  go_wp2_with fail
  refine (Sub_no A B n m c d a b _ (by omega) (by omega) hcn hdm ha hb hlt).mono ?_
  rintro e w1 ⟨rfl, hb1⟩
  go_wp2_with fail
  refine (Sub_yes B A m n d c b a _ (by omega) (by omega) hdm hcn (hb.below hb1) (ha.below hb1) (by omega)).mono ?_
  rintro e w2 ⟨X, cx, rfl, ho, hb2⟩
  go_wp2
  go_ret2
  exact ⟨X, cx, rfl, ho.lower hb1.size, hb1.trans (hb2.mono hb1.size)⟩

/-- A sum of two numbers with signs. -/
theorem addSigned_any (s t : Bool) (A B : Option Addr) (n m c d x y u v : Nat) (a b : List Nat) (w : World) (hn : n ≤ 20000) (hm : m ≤ 20000) (hcn : n ≤ c) (hdm : m ≤ d) (ha : Row w 0 A n a) (hb : Row w 0 B m b)
    (hx : val a = x * v) (hu : val b = u * y) (hy : y ≠ 0) (hv : v ≠ 0) :
    Calls Try.prog 67 #[.bool s, .slice A n c, .bool t, .slice B m d] w fun e w' => ∃ q z X cx, e = .returned (.tuple #[.bool q, .slice X (lim z).length cx]) ∧ Own w' w.heap.size X cx (lim z).length (lim z) ∧ rn s x y + rn t u v = rn q z (y * v) ∧ z ≤ val a + val b ∧ Below w.heap.size w w' := by
  by_cases hst : t = s
  · subst hst
    refine (addSigned_same t A B n m c d a b w hn hm hcn hdm ha hb).mono ?_
    rintro e w1 ⟨X, cx, rfl, ho, hb1⟩
    exact ⟨_, _, X, cx, rfl, ho, by rw [rn_add t hy hv, hx, hu], Nat.le_refl _, hb1⟩
  · have hst' : t = !s := by cases s <;> cases t <;> simp at hst ⊢
    by_cases hle : val b ≤ val a
    · refine (addSigned_less s t A B n m c d a b w hst' hn hm hcn hdm ha hb hle).mono ?_
      rintro e w1 ⟨X, cx, rfl, ho, hb1⟩
      exact ⟨_, _, X, cx, rfl, ho, by rw [rn_sub hst' hy hv (by omega), hx, hu], by omega, hb1⟩
    · refine (addSigned_more s t A B n m c d a b w hst' hn hm hcn hdm ha hb (by omega)).mono ?_
      rintro e w1 ⟨X, cx, rfl, ho, hb1⟩
      exact ⟨_, _, X, cx, rfl, ho, by rw [rn_sub' hst' hy hv (by omega), hx, hu], by omega, hb1⟩

theorem Rd.putC {w : World} {b p : Nat} {r : Rat} {u : Rv} (h : Rd w u r p) {v : Rv} (k : C3 w b (.bool v.s) (.slice v.A v.n v.c) (.slice v.B v.m v.d)) (x y z : Value) : Rd (put3 w b x y z) u r p := by
  obtain ⟨h1, h2, h3, h4, a, b', ha, hb', hr⟩ := h
  exact ⟨h1, h2, h3, h4, a, b', ha.putC k x y z, hb'.putC k x y z, hr⟩
theorem C3.drew {w : World} {b : Nat} {x y z : Value} (h : C3 w b x y z) : C3 w.drew b x y z := h
theorem Rw.drew {w : World} {v : Rv} {r : Rat} {p : Nat} (h : Rw w v r p) : Rw w.drew v r p := h.below ⟨rfl, rfl, rfl, Nat.le_refl _, fun _ _ => rfl⟩

set_option maxHeartbeats 1600000 in
theorem crosswise_any (v u : Rv) (r s : Rat) (w : World) (hv : Rw w v r 4000) (hu : Rw w u s 4000) :
    Calls Try.prog 39 #[.agg #[.bool v.s, .slice v.A v.n v.c, .slice v.B v.m v.d], .agg #[.bool u.s, .slice u.A u.n u.c, .slice u.B u.m u.d]] w fun e w' => ∃ q x y X cx Y cy, e = .returned (.tuple #[.bool q, .slice X (lim x).length cx, .slice Y (lim y).length cy]) ∧ (lim x).length ≤ cx ∧ (lim y).length ≤ cy ∧ (lim x).length ≤ 8001 ∧ (lim y).length ≤ 8000 ∧ y ≠ 0 ∧ Row w' w.heap.size X (lim x).length (lim x) ∧ Row w' w.heap.size Y (lim y).length (lim y) ∧ rn q x y = r + s ∧ Below w.heap.size w w' := by
  have ka := (C3.new w (.bool v.s) (.slice v.A v.n v.c) (.slice v.B v.m v.d)).alloc (.cells #[.bool u.s, .slice u.A u.n u.c, .slice u.B u.m u.d] 24)
  have kb := C3.new (w.alloc (.cells #[.bool v.s, .slice v.A v.n v.c, .slice v.B v.m v.d] 24)) (.bool u.s) (.slice u.A u.n u.c) (.slice u.B u.m u.d)
  have HW := ((Below.refl w.heap.size w).alloc (Nat.le_refl _) (.cells #[.bool v.s, .slice v.A v.n v.c, .slice v.B v.m v.d] 24)).alloc (by simp) (.cells #[.bool u.s, .slice u.A u.n u.c, .slice u.B u.m u.d] 24)
  have e1 : (w.alloc (.cells #[.bool v.s, .slice v.A v.n v.c, .slice v.B v.m v.d] 24)).heap.size = w.heap.size + 1 := by simp
  rw [e1] at kb
  go_enter Try.func39, Try.ntmps39
  go_wp2_with fail
  generalize (w.alloc (.cells #[.bool v.s, .slice v.A v.n v.c, .slice v.B v.m v.d] 24)).alloc (.cells #[.bool u.s, .slice u.A u.n u.c, .slice u.B u.m u.d] 24) = W at *
  replace hv := hv.below HW
  replace hu := hu.below HW
  have hlt := kb.lt
  clear e1
  go_cut [] from 7 to 10 (fun wx => ∃ v1 u1 : Rv, Hid (C3 wx w.heap.size (.bool v1.s) (.slice v1.A v1.n v1.c) (.slice v1.B v1.m v1.d) ∧ C3 wx (w.heap.size + 1) (.bool u1.s) (.slice u1.A u1.n u1.c) (.slice u1.B u1.m u1.d) ∧ Rd wx v1 r 4000 ∧ Rd wx u1 s 4000 ∧ Below w.heap.size w wx))
  case first =>
    obtain ⟨a0, a1, a2, a3, a4, a5⟩ := ka.facts
    obtain ⟨b0, b1, b2, b3, b4, b5⟩ := kb.facts
    go_region_with (first
      | (go_at_call_of 66 v
         refine (withDenominator_any v r 4000 _ hv.drew (by omega) (by omega)).mono ?_
         rintro e w1 ⟨v1, rfl, hv1, hb1⟩
         obtain ⟨a0, a1, a2, a3, a4, a5⟩ := (ka.drew.below hb1).facts
         obtain ⟨b0, b1, b2, b3, b4, b5⟩ := (kb.drew.below hb1).facts)
      | (go_at_call_of 66 u
         refine (withDenominator_any u s 4000 _ (hu.drew.below hb1) (by omega) (by omega)).mono ?_
         rintro e w2 ⟨u1, rfl, hu1, hb2⟩
         obtain ⟨a0, a1, a2, a3, a4, a5⟩ := ((ka.drew.below hb1).below hb2).facts
         obtain ⟨b0, b1, b2, b3, b4, b5⟩ := ((kb.drew.below hb1).below hb2).facts))
    all_goals (
      go_wp2_with fail
      go_meet
      have hbb := HW.trans ((below_drewN' w.heap.size W 1).trans ((hb1.mono (by show _ ≤ W.heap.size; omega)).trans (hb2.mono (by have := hb1.size; have h3 : W.drew.heap.size = W.heap.size := rfl; omega))))
      have ka2 := (ka.drew.below hb1).below hb2
      have kb2 := (kb.drew.below hb1).below hb2
      have hv2 := hv1.below hb2
      have kb3 := kb2.putOther (b := w.heap.size) (by omega) (.bool v1.s) (.slice v1.A v1.n v1.c) (.slice v1.B v1.m v1.d)
      have ka3 := (ka2.put (.bool v1.s) (.slice v1.A v1.n v1.c) (.slice v1.B v1.m v1.d)).putOther (b := w.heap.size + 1) (by omega) (.bool u1.s) (.slice u1.A u1.n u1.c) (.slice u1.B u1.m u1.d)
      exact ⟨v1, u1, ka3, kb3.put _ _ _, (hv2.putC ka2 _ _ _).putC kb3 _ _ _, (hu1.putC ka2 _ _ _).putC kb3 _ _ _, hbb.trans ((put3_below (Nat.le_refl _) _ _ _).trans (put3_below (by omega) _ _ _))⟩)
  case rest =>
    obtain ⟨v1, u1, HC⟩ := hcut
    obtain ⟨ka1, kb1, hv1, hu1, HB⟩ := HC.out
    clear HC ka kb hv hu HW hlt
    obtain ⟨a0, a1, a2, a3, a4, a5⟩ := ka1.facts
    obtain ⟨b0, b1, b2, b3, b4, b5⟩ := kb1.facts
    obtain ⟨h1, h2, h3, h4, a, b, ha, hb, hr, hy⟩ := hv1
    obtain ⟨g1, g2, g3, g4, c, d, hc, hd, hs, hz⟩ := hu1
    go_wp2_with fail
    go_region_held3 (fun w' => w'.cell? ⟨w.heap.size, 0, none⟩ = some (.bool v1.s) ∧ w'.cell? ⟨w.heap.size, 1, none⟩ = some (.slice v1.A v1.n v1.c) ∧ w'.cell? ⟨w.heap.size, 2, none⟩ = some (.slice v1.B v1.m v1.d) ∧ w'.cell? ⟨w.heap.size + 1, 0, none⟩ = some (.bool u1.s) ∧ w'.cell? ⟨w.heap.size + 1, 1, none⟩ = some (.slice u1.A u1.n u1.c) ∧ w'.cell? ⟨w.heap.size + 1, 2, none⟩ = some (.slice u1.B u1.m u1.d)) (go_keep)
      (first
      | (go_at_call_of 33 v1.A
         refine (Mul_any v1.A u1.B v1.n u1.m v1.c u1.d a d _ (by omega) (by omega) h1 g2 ha.drew hd.drew).mono ?_
         rintro e w1 ⟨X1, cx1, rfl, ho1, hb1⟩
         obtain ⟨a0, a1, a2, a3, a4, a5⟩ := (ka1.drew.below hb1).facts
         obtain ⟨b0, b1, b2, b3, b4, b5⟩ := (kb1.drew.below hb1).facts)
      | (go_at_call_of 33 u1.A
         refine (Mul_any u1.A v1.B u1.n v1.m u1.c v1.d c b _ (by omega) (by omega) g1 h2 (hc.drew.below hb1) (hb.drew.below hb1)).mono ?_
         rintro e w2 ⟨X2, cx2, rfl, ho2, hb2⟩
         obtain ⟨a0, a1, a2, a3, a4, a5⟩ := ((ka1.drew.below hb1).below hb2).facts
         obtain ⟨b0, b1, b2, b3, b4, b5⟩ := ((kb1.drew.below hb1).below hb2).facts)
      | (go_at_call_of 67 X1
         refine (addSigned_any v1.s u1.s X1 X2 _ _ cx1 cx2 (val a) (val b) (val c) (val d) _ _ _ ?_ ?_ ho1.capLe ho2.capLe ((ho1.row.below hb2).lower (Nat.zero_le _)) (ho2.row.lower (Nat.zero_le _)) (val_lim _) (val_lim _) hy hz).mono ?_
         · exact Nat.le_trans ((ha.bd h3).mul (hd.bd g4)).len (by omega)
         · exact Nat.le_trans ((hc.bd g3).mul (hb.bd h4)).len (by omega)
         rintro e w3 ⟨q, z, X3, cx3, rfl, ho3, hsum, hz3, hb3⟩
         obtain ⟨a0, a1, a2, a3, a4, a5⟩ := (((ka1.drew.below hb1).below hb2).below hb3).facts
         obtain ⟨b0, b1, b2, b3, b4, b5⟩ := (((kb1.drew.below hb1).below hb2).below hb3).facts))
    rename_i hHeld
    have hszw : w.heap.size ≤ wc.heap.size := HB.size
    have hs1 : wc.heap.size ≤ w1.heap.size := hb1.size
    have hs2 := hb2.size
    have HB3 : Below w.heap.size w w3 := HB.trans ((below_drewN' w.heap.size wc 1).trans ((hb1.mono (by show _ ≤ wc.heap.size; omega)).trans ((hb2.mono (by omega)).trans (hb3.mono (by omega)))))
    replace hb := ((hb.drew.below hb1).below hb2).below hb3
    replace hd := ((hd.drew.below hb1).below hb2).below hb3
    have hrz := ho3.row
    have hcz := ho3.capLe
    have hzl : (lim z).length ≤ 8001 := by
      have h8 : Bd (val (lim (val a * val d)) + val (lim (val c * val b))) 8001 := by
        rw [val_lim, val_lim]
        exact (((ha.bd h3).mul (hd.bd g4)).add ((hc.bd g3).mul (hb.bd h4))).more (by omega)
      exact (h8.le hz3).len
    have hyl : (lim (val b * val d)).length ≤ 8000 := ((hb.bd h4).mul (hd.bd g4)).len
    have hne : val b * val d ≠ 0 := Nat.mul_ne_zero hy hz
    rw [hr, hs] at hsum
    clear ho3 ho1 ho2 hb1 hb2 hb3 ka1 kb1 hz3 ha hc hHeld HB hy hz hr hs
    go_wp2_with fail
    refine (Mul_any v1.B u1.B v1.m u1.m v1.d u1.d b d _ (by omega) (by omega) h2 g2 hb hd).mono ?_
    rintro e w4 ⟨Y, cy, rfl, ho4, hb4⟩
    have hry := ho4.row
    have hcy := ho4.capLe
    have hs4 := hb4.size
    have hs3 := HB3.size
    go_wp2
    go_ret3
    exact ⟨q, z, val b * val d, X3, cx3, Y, cy, rfl, hcz, hcy, hzl, hyl, hne, (hrz.lower (by omega)).below hb4, hry.lower (by omega), hsum.symm, HB3.trans (hb4.mono (by omega))⟩
end Go.Proofs.Ytplpkojikgeamaa

namespace Go.Proofs.Ytplpkojikgeamaa
set_option maxRecDepth 20000
open Go.RowKit

theorem Sz.ofRn {s : Bool} {x y p : Nat} {r : Rat} (h : rn s x y = r) (hx : Bd x p) (hy : Bd y p) (hp : 0 < p) : Sz r p := ⟨Bd.num h hx, Bd.den h hy hp⟩

/-- The world behind the blocks of two parameters and of the result. -/
theorem open2z (w : World) (v u : Rv) (W : World) (h : (((w.alloc (.cells #[.bool v.s, .slice v.A v.n v.c, .slice v.B v.m v.d] 24)).alloc (.cells #[.bool u.s, .slice u.A u.n u.c, .slice u.B u.m u.d] 24)).alloc (.cells #[.bool false, .slice none 0 0, .slice none 0 0] 24)) = W) :
    C3 W w.heap.size (.bool v.s) (.slice v.A v.n v.c) (.slice v.B v.m v.d) ∧ C3 W (w.heap.size + 1) (.bool u.s) (.slice u.A u.n u.c) (.slice u.B u.m u.d) ∧ C3 W (w.heap.size + 1 + 1) (.bool false) (.slice none 0 0) (.slice none 0 0) ∧ Below w.heap.size w W ∧ W.heap.size = w.heap.size + 3 := by
  subst h
  have e1 : (w.alloc (.cells #[.bool v.s, .slice v.A v.n v.c, .slice v.B v.m v.d] 24)).heap.size = w.heap.size + 1 := by simp
  have e2 : ((w.alloc (.cells #[.bool v.s, .slice v.A v.n v.c, .slice v.B v.m v.d] 24)).alloc (.cells #[.bool u.s, .slice u.A u.n u.c, .slice u.B u.m u.d] 24)).heap.size = w.heap.size + 1 + 1 := by simp
  refine ⟨((C3.new w (.bool v.s) (.slice v.A v.n v.c) (.slice v.B v.m v.d)).alloc _).alloc _, ?_, ?_, ?_, by simp⟩
  · have := C3.new (w.alloc (.cells #[.bool v.s, .slice v.A v.n v.c, .slice v.B v.m v.d] 24)) (.bool u.s) (.slice u.A u.n u.c) (.slice u.B u.m u.d)
    rw [e1] at this; exact this.alloc _
  · have := C3.new ((w.alloc (.cells #[.bool v.s, .slice v.A v.n v.c, .slice v.B v.m v.d] 24)).alloc (.cells #[.bool u.s, .slice u.A u.n u.c, .slice u.B u.m u.d] 24)) (.bool false) (.slice none 0 0) (.slice none 0 0)
    rw [e2] at this; exact this
  · exact (((Below.refl w.heap.size w).alloc (Nat.le_refl _) _).alloc (by simp) _).alloc (by simp; omega) _
theorem open2 (w : World) (v u : Rv) (W : World) (h : ((w.alloc (.cells #[.bool v.s, .slice v.A v.n v.c, .slice v.B v.m v.d] 24)).alloc (.cells #[.bool u.s, .slice u.A u.n u.c, .slice u.B u.m u.d] 24)) = W) :
    C3 W w.heap.size (.bool v.s) (.slice v.A v.n v.c) (.slice v.B v.m v.d) ∧ C3 W (w.heap.size + 1) (.bool u.s) (.slice u.A u.n u.c) (.slice u.B u.m u.d) ∧ Below w.heap.size w W ∧ W.heap.size = w.heap.size + 2 := by
  subst h
  have e1 : (w.alloc (.cells #[.bool v.s, .slice v.A v.n v.c, .slice v.B v.m v.d] 24)).heap.size = w.heap.size + 1 := by simp
  refine ⟨((C3.new w (.bool v.s) (.slice v.A v.n v.c) (.slice v.B v.m v.d)).alloc _), ?_, ?_, by simp⟩
  · have := C3.new (w.alloc (.cells #[.bool v.s, .slice v.A v.n v.c, .slice v.B v.m v.d] 24)) (.bool u.s) (.slice u.A u.n u.c) (.slice u.B u.m u.d)
    rw [e1] at this; exact this
  · exact ((Below.refl w.heap.size w).alloc (Nat.le_refl _) _).alloc (by simp) _
theorem open1z (w : World) (v : Rv) (W : World) (h : ((w.alloc (.cells #[.bool v.s, .slice v.A v.n v.c, .slice v.B v.m v.d] 24)).alloc (.cells #[.bool false, .slice none 0 0, .slice none 0 0] 24)) = W) :
    C3 W w.heap.size (.bool v.s) (.slice v.A v.n v.c) (.slice v.B v.m v.d) ∧ C3 W (w.heap.size + 1) (.bool false) (.slice none 0 0) (.slice none 0 0) ∧ Below w.heap.size w W ∧ W.heap.size = w.heap.size + 2 := by
  subst h
  have e1 : (w.alloc (.cells #[.bool v.s, .slice v.A v.n v.c, .slice v.B v.m v.d] 24)).heap.size = w.heap.size + 1 := by simp
  refine ⟨((C3.new w (.bool v.s) (.slice v.A v.n v.c) (.slice v.B v.m v.d)).alloc _), ?_, ?_, by simp⟩
  · have := C3.new (w.alloc (.cells #[.bool v.s, .slice v.A v.n v.c, .slice v.B v.m v.d] 24)) (.bool false) (.slice none 0 0) (.slice none 0 0)
    rw [e1] at this; exact this
  · exact ((Below.refl w.heap.size w).alloc (Nat.le_refl _) _).alloc (by simp) _
theorem open1 (w : World) (v : Rv) (W : World) (h : (w.alloc (.cells #[.bool v.s, .slice v.A v.n v.c, .slice v.B v.m v.d] 24)) = W) :
    C3 W w.heap.size (.bool v.s) (.slice v.A v.n v.c) (.slice v.B v.m v.d) ∧ Below w.heap.size w W ∧ W.heap.size = w.heap.size + 1 := by
  subst h
  exact ⟨C3.new w (.bool v.s) (.slice v.A v.n v.c) (.slice v.B v.m v.d), (Below.refl w.heap.size w).alloc (Nat.le_refl _) _, by simp⟩

set_option maxHeartbeats 800000 in
theorem Add_c (v u : Rv) (r s : Rat) (w : World) (hv : Rw w v r 2000) (hu : Rw w u s 2000) :
    Calls Try.prog 14 #[.agg #[.bool v.s, .slice v.A v.n v.c, .slice v.B v.m v.d], .agg #[.bool u.s, .slice u.A u.n u.c, .slice u.B u.m u.d]] w fun e w' => ∃ v : Rv, e = .returned (.agg #[.bool v.s, .slice v.A v.n v.c, .slice v.B v.m v.d]) ∧ Rt w' w.heap.size v (r + s) ∧ Below w.heap.size w w' := by
  go_enter Try.func14, Try.ntmps14
  go_wp2_with fail
  generalize hW : (((w.alloc (.cells #[.bool v.s, .slice v.A v.n v.c, .slice v.B v.m v.d] 24)).alloc (.cells #[.bool u.s, .slice u.A u.n u.c, .slice u.B u.m u.d] 24)).alloc (.cells #[.bool false, .slice none 0 0, .slice none 0 0] 24)) = W
  obtain ⟨ka, kb, kz, HW, hs⟩ := open2z w v u W hW
  clear hW
  refine (crosswise_any v u r s _ ((hv.below HW).more (by omega)) ((hu.below HW).more (by omega))).mono ?_
  rintro e w1 ⟨q, x, y, X, cx, Y, cy, rfl, hcx, hcy, hlx, hly, hy, hrx, hry, hq, hb1⟩
  replace kz := kz.below hb1
  have hs1 := hb1.size
  have HB := HW.trans (hb1.mono (by omega))
  clear hb1 ka kb
  go_wp2_with fail
  refine (Of_nums q X Y _ _ cx cy x y _ _ (r + s) _ (val_lim _) (val_lim _) (by omega) (by omega) hcx hcy (hrx.lower (Nat.zero_le _)) (hry.lower (Nat.zero_le _)) hq).mono ?_
  rintro e w2 ⟨z, rfl, hz, hb2⟩
  replace kz := kz.below hb2
  replace HB := HB.trans (hb2.mono (by omega))
  obtain ⟨q0, q1, q2, g0, g1, g2⟩ := kz.facts
  clear hb2 hrx hry
  go_wp2
  refine ret3 (fn := Try.f14) Try.results14 rfl rfl kz ?_
  exact ⟨z, rfl, (hz.put (by omega) _ _ _).lower (by omega), HB.trans (put3_below (by omega) _ _ _)⟩

set_option maxHeartbeats 1600000 in
theorem Mul_c (v u : Rv) (r s : Rat) (w : World) (hv : Rw w v r 2000) (hu : Rw w u s 2000) :
    Calls Try.prog 15 #[.agg #[.bool v.s, .slice v.A v.n v.c, .slice v.B v.m v.d], .agg #[.bool u.s, .slice u.A u.n u.c, .slice u.B u.m u.d]] w fun e w' => ∃ v : Rv, e = .returned (.agg #[.bool v.s, .slice v.A v.n v.c, .slice v.B v.m v.d]) ∧ Rt w' w.heap.size v (r * s) ∧ Below w.heap.size w w' := by
  go_enter Try.func15, Try.ntmps15
  go_wp2_with fail
  generalize hW : (((w.alloc (.cells #[.bool v.s, .slice v.A v.n v.c, .slice v.B v.m v.d] 24)).alloc (.cells #[.bool u.s, .slice u.A u.n u.c, .slice u.B u.m u.d] 24)).alloc (.cells #[.bool false, .slice none 0 0, .slice none 0 0] 24)) = W
  obtain ⟨ka, kb, kz, HW, hsW⟩ := open2z w v u W hW
  clear hW
  obtain ⟨h1, h2, h3, h4, a, b, ha, hb, hr⟩ := hv.below HW
  obtain ⟨g1, g2, g3, g4, c, d, hc, hd, hs⟩ := hu.below HW
  have hrs : rn (v.s != u.s) (val a * val c) (val b * val d) = r * s := by rw [← hr, ← hs, rn_mul]
  have hl1 : (lim (val a * val c)).length ≤ 4000 := ((ha.bd h3).mul (hc.bd g3)).len
  have hl2 : (lim (val b * val d)).length ≤ 4000 := ((hb.bd h4).mul (hd.bd g4)).len
  obtain ⟨a0, a1, a2, a3, a4, a5⟩ := ka.facts
  obtain ⟨b0, b1, b2, b3, b4, b5⟩ := kb.facts
  obtain ⟨z0, z1, z2, z3, z4, z5⟩ := kz.facts
  have hn1 : ¬ w.heap.size = w.heap.size + 1 + 1 := by omega
  have hn2 : ¬ w.heap.size + 1 + 1 = w.heap.size := by omega
  go_region_held3 (fun w' => w'.cell? ⟨w.heap.size, 0, none⟩ = some (.bool v.s) ∧ w'.cell? ⟨w.heap.size, 1, none⟩ = some (.slice v.A v.n v.c) ∧ w'.cell? ⟨w.heap.size, 2, none⟩ = some (.slice v.B v.m v.d) ∧ w'.cell? ⟨w.heap.size + 1, 0, none⟩ = some (.bool u.s) ∧ w'.cell? ⟨w.heap.size + 1, 1, none⟩ = some (.slice u.A u.n u.c) ∧ w'.cell? ⟨w.heap.size + 1, 2, none⟩ = some (.slice u.B u.m u.d)) (go_keep)
      (first
      | (go_at_call_of 33 v.A
         refine (Mul_any v.A u.A v.n u.n v.c u.c a c _ (by omega) (by omega) h1 g1 ha.drew hc.drew).mono ?_
         rintro e w1 ⟨X1, cx1, rfl, ho1, hb1⟩
         obtain ⟨a0, a1, a2, a3, a4, a5⟩ := (ka.drew.below hb1).facts
         obtain ⟨b0, b1, b2, b3, b4, b5⟩ := (kb.drew.below hb1).facts
         obtain ⟨z0, z1, z2, z3, z4, z5⟩ := (kz.drew.below hb1).facts)
      | (go_at_call_of 33 v.B
         refine (Mul_any v.B u.B v.m u.m v.d u.d b d _ (by omega) (by omega) h2 g2 (hb.drew.below hb1) (hd.drew.below hb1)).mono ?_
         rintro e w2 ⟨X2, cx2, rfl, ho2, hb2⟩
         obtain ⟨a0, a1, a2, a3, a4, a5⟩ := ((ka.drew.below hb1).below hb2).facts
         obtain ⟨b0, b1, b2, b3, b4, b5⟩ := ((kb.drew.below hb1).below hb2).facts
         obtain ⟨z0, z1, z2, z3, z4, z5⟩ := ((kz.drew.below hb1).below hb2).facts)
      | (go_at_call_of 32 X1
         refine (Of_nums (v.s != u.s) X1 X2 _ _ cx1 cx2 (val a * val c) (val b * val d) _ _ (r * s) _ (val_lim _) (val_lim _) (by omega) (by omega) ho1.capLe ho2.capLe ((ho1.row.below hb2).lower (Nat.zero_le _)) (ho2.row.lower (Nat.zero_le _)) hrs).mono ?_
         rintro e w3 ⟨z, rfl, hz, hb3⟩
         obtain ⟨a0, a1, a2, a3, a4, a5⟩ := (((ka.drew.below hb1).below hb2).below hb3).facts
         obtain ⟨b0, b1, b2, b3, b4, b5⟩ := (((kb.drew.below hb1).below hb2).below hb3).facts
         obtain ⟨z0, z1, z2, z3, z4, z5⟩ := (((kz.drew.below hb1).below hb2).below hb3).facts))
  have hs1 : W.heap.size ≤ w1.heap.size := hb1.size
  have hs2 := hb2.size
  have hs3 := hb3.size
  have kz3 := ((kz.drew.below hb1).below hb2).below hb3
  have HB3 : Below w.heap.size w w3 := HW.trans ((below_drewN' w.heap.size W 1).trans ((hb1.mono (by show _ ≤ W.heap.size; omega)).trans ((hb2.mono (by omega)).trans (hb3.mono (by omega)))))
  clear hb1 hb2 hb3 ka kb
  go_wp2
  refine ret3 (fn := Try.f15) Try.results15 rfl rfl kz3 ?_
  exact ⟨z, rfl, (hz.put (by omega) _ _ _).lower (by omega), HB3.trans (put3_below (by omega) _ _ _)⟩
end Go.Proofs.Ytplpkojikgeamaa

namespace Go.Proofs.Ytplpkojikgeamaa
set_option maxRecDepth 20000
open Go.RowKit

theorem ret3t {fn : Func} {t s : Tmp} {R : Ending → World → Prop} {a : Act} {w : World} {b : Nat} {x y z u : Value} (hres : fn.results = #[.cell t 24, .tmp s]) (ht : a.tmps.getD t undef = .pointer (some ⟨b, 0, none⟩)) (hu : a.tmps.getD s undef = u) (hd : a.defers = [])
    (hk : C3 w b x y z) (hR : R (.returned (.tuple #[.agg #[x, y, z], u])) w) : bodyPost Try.prog fn R .ret a w := by
  obtain ⟨q0, q1, q2, g0, g1, g2⟩ := hk.facts
  have ht' : (a.tmps[t]?.getD undef) = .pointer (some ⟨b, 0, none⟩) := by simpa using ht
  have hu' : (a.tmps[s]?.getD undef) = u := by simpa using hu
  refine bodyPost_ret (v := .tuple #[.agg #[x, y, z], u]) ?_ hd hR
  simp [results, hres, go_sem, ht', hu', q0, q1, q2]

set_option maxHeartbeats 1600000 in
theorem Div_c (v u : Rv) (r s : Rat) (w : World) (hv : Rw w v r 2000) (hu : Rw w u s 2000) (hs0 : s ≠ 0) :
    Calls Try.prog 8 #[.agg #[.bool v.s, .slice v.A v.n v.c, .slice v.B v.m v.d], .agg #[.bool u.s, .slice u.A u.n u.c, .slice u.B u.m u.d]] w fun e w' => ∃ v : Rv, e = .returned (.tuple #[.agg #[.bool v.s, .slice v.A v.n v.c, .slice v.B v.m v.d], .bool true]) ∧ Rt w' w.heap.size v (r / s) ∧ Below w.heap.size w w' := by
  go_enter Try.func8, Try.ntmps8
  go_wp2_with fail
  generalize hW : (((w.alloc (.cells #[.bool v.s, .slice v.A v.n v.c, .slice v.B v.m v.d] 24)).alloc (.cells #[.bool u.s, .slice u.A u.n u.c, .slice u.B u.m u.d] 24)).alloc (.cells #[.bool false, .slice none 0 0, .slice none 0 0] 24)) = W
  obtain ⟨ka, kb, kz, HW, hsW⟩ := open2z w v u W hW
  clear hW
  refine (Zero_any u s _ ((hu.below HW).more (by omega))).mono ?_
  rintro e w0 ⟨rfl, hb0⟩
  have hsW2 := hb0.size
  replace ka := ka.below hb0
  replace kb := kb.below hb0
  replace kz := kz.below hb0
  replace HW := HW.trans (hb0.mono (by omega))
  clear hb0
  rw [decide_eq_false hs0]
  obtain ⟨a0, a1, a2, a3, a4, a5⟩ := ka.facts
  obtain ⟨b0, b1, b2, b3, b4, b5⟩ := kb.facts
  obtain ⟨z0, z1, z2, z3, z4, z5⟩ := kz.facts
  go_wp2_with fail
  obtain ⟨h1, h2, h3, h4, a, b, ha, hb, hr⟩ := hv.below HW
  obtain ⟨g1, g2, g3, g4, c, d, hc, hd, hs⟩ := hu.below HW
  have hcd : val c ≠ 0 ∧ val d ≠ 0 := by
    refine ⟨fun h => hs0 (by rw [← hs]; exact rn_zero (.inl h)), fun h => hs0 (by rw [← hs]; exact rn_zero (.inr h))⟩
  have hrs : rn (v.s != u.s) (val a * val d) (val b * val c) = r / s := by rw [← hr, ← hs, rn_div _ _ hcd.1 hcd.2]
  have hl1 : (lim (val a * val d)).length ≤ 4000 := ((ha.bd h3).mul (hd.bd g4)).len
  have hl2 : (lim (val b * val c)).length ≤ 4000 := ((hb.bd h4).mul (hc.bd g3)).len
  obtain ⟨a0, a1, a2, a3, a4, a5⟩ := ka.facts
  obtain ⟨b0, b1, b2, b3, b4, b5⟩ := kb.facts
  obtain ⟨z0, z1, z2, z3, z4, z5⟩ := kz.facts
  have hn1 : ¬ w.heap.size = w.heap.size + 1 + 1 := by omega
  have hn2 : ¬ w.heap.size + 1 + 1 = w.heap.size := by omega
  go_region_held3 (fun w' => w'.cell? ⟨w.heap.size, 0, none⟩ = some (.bool v.s) ∧ w'.cell? ⟨w.heap.size, 1, none⟩ = some (.slice v.A v.n v.c) ∧ w'.cell? ⟨w.heap.size, 2, none⟩ = some (.slice v.B v.m v.d) ∧ w'.cell? ⟨w.heap.size + 1, 0, none⟩ = some (.bool u.s) ∧ w'.cell? ⟨w.heap.size + 1, 1, none⟩ = some (.slice u.A u.n u.c) ∧ w'.cell? ⟨w.heap.size + 1, 2, none⟩ = some (.slice u.B u.m u.d)) (go_keep)
      (first
      | (go_at_call_of 33 v.A
         refine (Mul_any v.A u.B v.n u.m v.c u.d a d _ (by omega) (by omega) h1 g2 ha.drew hd.drew).mono ?_
         rintro e w1 ⟨X1, cx1, rfl, ho1, hb1⟩
         obtain ⟨a0, a1, a2, a3, a4, a5⟩ := (ka.drew.below hb1).facts
         obtain ⟨b0, b1, b2, b3, b4, b5⟩ := (kb.drew.below hb1).facts
         obtain ⟨z0, z1, z2, z3, z4, z5⟩ := (kz.drew.below hb1).facts)
      | (go_at_call_of 33 v.B
         refine (Mul_any v.B u.A v.m u.n v.d u.c b c _ (by omega) (by omega) h2 g1 (hb.drew.below hb1) (hc.drew.below hb1)).mono ?_
         rintro e w2 ⟨X2, cx2, rfl, ho2, hb2⟩
         obtain ⟨a0, a1, a2, a3, a4, a5⟩ := ((ka.drew.below hb1).below hb2).facts
         obtain ⟨b0, b1, b2, b3, b4, b5⟩ := ((kb.drew.below hb1).below hb2).facts
         obtain ⟨z0, z1, z2, z3, z4, z5⟩ := ((kz.drew.below hb1).below hb2).facts)
      | (go_at_call_of 32 X1
         refine (Of_nums (v.s != u.s) X1 X2 _ _ cx1 cx2 (val a * val d) (val b * val c) _ _ (r / s) _ (val_lim _) (val_lim _) (by omega) (by omega) ho1.capLe ho2.capLe ((ho1.row.below hb2).lower (Nat.zero_le _)) (ho2.row.lower (Nat.zero_le _)) hrs).mono ?_
         rintro e w3 ⟨z, rfl, hz, hb3⟩
         obtain ⟨a0, a1, a2, a3, a4, a5⟩ := (((ka.drew.below hb1).below hb2).below hb3).facts
         obtain ⟨b0, b1, b2, b3, b4, b5⟩ := (((kb.drew.below hb1).below hb2).below hb3).facts
         obtain ⟨z0, z1, z2, z3, z4, z5⟩ := (((kz.drew.below hb1).below hb2).below hb3).facts))
  have hs1 : w0.heap.size ≤ w1.heap.size := hb1.size
  have hs2 := hb2.size
  have hs3 := hb3.size
  have kz3 := ((kz.drew.below hb1).below hb2).below hb3
  have HB3 : Below w.heap.size w w3 := HW.trans ((below_drewN' w.heap.size w0 1).trans ((hb1.mono (by show _ ≤ w0.heap.size; omega)).trans ((hb2.mono (by omega)).trans (hb3.mono (by omega)))))
  clear hb1 hb2 hb3 ka kb
  go_wp2
  refine ret3t (fn := Try.f8) Try.results8 rfl rfl rfl (kz3.put _ _ _) ?_
  exact ⟨z, rfl, (hz.put (by omega) _ _ _).lower (by omega), HB3.trans (put3_below (by omega) _ _ _)⟩
set_option maxHeartbeats 800000 in
theorem Div_zero_c (v u : Rv) (s : Rat) (w : World) (hu : Rw w u s 2000) (hs0 : s = 0) :
    Calls Try.prog 8 #[.agg #[.bool v.s, .slice v.A v.n v.c, .slice v.B v.m v.d], .agg #[.bool u.s, .slice u.A u.n u.c, .slice u.B u.m u.d]] w fun e w' => ∃ v : Rv, e = .returned (.tuple #[.agg #[.bool v.s, .slice v.A v.n v.c, .slice v.B v.m v.d], .bool false]) ∧ Rt w' w.heap.size v 0 ∧ Below w.heap.size w w' := by
  go_enter Try.func8, Try.ntmps8
  go_wp2_with fail
  generalize hW : (((w.alloc (.cells #[.bool v.s, .slice v.A v.n v.c, .slice v.B v.m v.d] 24)).alloc (.cells #[.bool u.s, .slice u.A u.n u.c, .slice u.B u.m u.d] 24)).alloc (.cells #[.bool false, .slice none 0 0, .slice none 0 0] 24)) = W
  obtain ⟨ka, kb, kz, HW, hsW⟩ := open2z w v u W hW
  clear hW
  refine (Zero_any u s _ ((hu.below HW).more (by omega))).mono ?_
  rintro e w0 ⟨rfl, hb0⟩
  have hsW2 := hb0.size
  replace kz := kz.below hb0
  replace HW := HW.trans (hb0.mono (by omega))
  clear hb0 ka kb
  rw [decide_eq_true hs0]
  go_wp2_with fail
  refine (nought_any _).mono ?_
  rintro e w1 ⟨z, rfl, hz, hb1⟩
  have hs1 := hb1.size
  replace kz := kz.below hb1
  replace HW := HW.trans (hb1.mono (by omega))
  obtain ⟨z0, z1, z2, z3, z4, z5⟩ := kz.facts
  clear hb1
  go_wp2
  refine ret3t (fn := Try.f8) Try.results8 rfl rfl rfl (kz.put _ _ _) ?_
  exact ⟨z, rfl, (hz.put (by omega) _ _ _).lower (by omega), HW.trans (put3_below (by omega) _ _ _)⟩

set_option maxHeartbeats 1600000 in
theorem Cmp_c (v u : Rv) (r s : Rat) (w : World) (hv : Rw w v r 2000) (hu : Rw w u s 2000) :
    Calls Try.prog 38 #[.agg #[.bool v.s, .slice v.A v.n v.c, .slice v.B v.m v.d], .agg #[.bool u.s, .slice u.A u.n u.c, .slice u.B u.m u.d]] w fun e w' => e = .returned (.int .i64 (sgn (r - s))) ∧ Below w.heap.size w w' := by
  go_enter Try.func38, Try.ntmps38
  go_wp2_with fail
  generalize hW : ((w.alloc (.cells #[.bool v.s, .slice v.A v.n v.c, .slice v.B v.m v.d] 24)).alloc (.cells #[.bool u.s, .slice u.A u.n u.c, .slice u.B u.m u.d] 24)) = W
  obtain ⟨ka, kb, HW, hsW⟩ := open2 w v u W hW
  clear hW
  obtain ⟨a0, a1, a2, a3, a4, a5⟩ := ka.facts
  obtain ⟨b0, b1, b2, b3, b4, b5⟩ := kb.facts
  replace hv := (hv.below HW).more (show 2000 ≤ 4000 by omega)
  replace hu := (hu.below HW).more (show 2000 ≤ 4000 by omega)
  go_region_held3 (fun w' => w'.cell? ⟨w.heap.size, 0, none⟩ = some (.bool v.s) ∧ w'.cell? ⟨w.heap.size, 1, none⟩ = some (.slice v.A v.n v.c) ∧ w'.cell? ⟨w.heap.size, 2, none⟩ = some (.slice v.B v.m v.d) ∧ w'.cell? ⟨w.heap.size + 1, 0, none⟩ = some (.bool u.s) ∧ w'.cell? ⟨w.heap.size + 1, 1, none⟩ = some (.slice u.A u.n u.c) ∧ w'.cell? ⟨w.heap.size + 1, 2, none⟩ = some (.slice u.B u.m u.d)) (go_keep)
      (first
      | (go_at_call_of 65 u
         refine (turned_any u s 4000 _ hu.drew).mono ?_
         rintro e w1 ⟨u1, rfl, hu1, hb1⟩
         obtain ⟨a0, a1, a2, a3, a4, a5⟩ := (ka.drew.below hb1).facts
         obtain ⟨b0, b1, b2, b3, b4, b5⟩ := (kb.drew.below hb1).facts)
      | (go_at_call_of 39 u1
         refine (crosswise_any v u1 r (-s) _ (hv.drew.below hb1) hu1).mono ?_
         rintro e w2 ⟨q, x, y, X, cx, Y, cy, rfl, hcx, hcy, hlx, hly, hy, hrx, hry, hq, hb2⟩
         obtain ⟨a0, a1, a2, a3, a4, a5⟩ := ((ka.drew.below hb1).below hb2).facts
         obtain ⟨b0, b1, b2, b3, b4, b5⟩ := ((kb.drew.below hb1).below hb2).facts))
  have hs1 : W.heap.size ≤ w1.heap.size := hb1.size
  have hs2 := hb2.size
  have HB : Below w.heap.size w w2 := HW.trans ((below_drewN' w.heap.size W 1).trans ((hb1.mono (by show _ ≤ W.heap.size; omega)).trans (hb2.mono (by omega))))
  rw [← Rat.sub_eq_add_neg] at hq
  clear hb1 hb2 ka kb hv hu
  have hsg : sgn (r - s) = if x = 0 then 0 else if q then -1 else 1 := by rw [← hq]; exact sgn_rn hy
  have hn1 : (lim x).length ≤ 9000 := by omega
  rename_i hHeld
  clear hq hy hry hlx hly hcy hs1 hs2 hHeld a0 a1 a2 a3 a4 a5 b0 b1 b2 b3 b4 b5 hu1
  by_cases hx : x = 0
  · rw [if_pos hx] at hsg
    have HS := Lib.hid hsg
    have HX := Lib.hid hx
    clear hsg hx
    go_wp2_with fail
    refine (isNought_yes X _ cx _ _ (by omega) hcx (hrx.lower (Nat.zero_le _)) (by rw [val_lim]; exact HX.out)).mono ?_
    rintro e w3 ⟨rfl, rfl⟩
    go_wp2
    go_ret
    exact ⟨by rw [HS.out]; rfl, HB⟩
  · rw [if_neg hx] at hsg
    have HS := Lib.hid hsg
    have HX := Lib.hid hx
    clear hsg hx
    go_wp2_with fail
    refine (isNought_no X _ cx _ _ (by omega) hcx (hrx.lower (Nat.zero_le _)) (by rw [val_lim]; exact HX.out)).mono ?_
    rintro e w3 ⟨rfl, rfl⟩
    cases q
    · go_wp2
      go_ret
      exact ⟨by rw [HS.out]; rfl, HB⟩
    · go_wp2
      go_ret
      exact ⟨by rw [HS.out]; rfl, HB⟩

theorem sgn_sub_zero {r s : Rat} : sgn (r - s) = 0 ↔ r = s := by
  have h0 : r - s = 0 ↔ r = s := by
    constructor
    · intro h
      have : r - s + s = 0 + s := by rw [h]
      rwa [Rat.sub_add_cancel, Rat.zero_add] at this
    · rintro rfl; exact Rat.sub_self
  rw [← h0]
  unfold sgn
  split
  · rename_i h; simp [h]
  · rename_i h; split <;> simp [h]

set_option maxHeartbeats 800000 in
theorem Same_c (v u : Rv) (r s : Rat) (w : World) (hv : Rw w v r 2000) (hu : Rw w u s 2000) :
    Calls Try.prog 11 #[.agg #[.bool v.s, .slice v.A v.n v.c, .slice v.B v.m v.d], .agg #[.bool u.s, .slice u.A u.n u.c, .slice u.B u.m u.d]] w fun e w' => e = .returned (.bool (decide (r = s))) ∧ Below w.heap.size w w' := by
  go_enter Try.func11, Try.ntmps11
  go_wp2_with fail
  generalize hW : ((w.alloc (.cells #[.bool v.s, .slice v.A v.n v.c, .slice v.B v.m v.d] 24)).alloc (.cells #[.bool u.s, .slice u.A u.n u.c, .slice u.B u.m u.d] 24)) = W
  obtain ⟨ka, kb, HW, hsW⟩ := open2 w v u W hW
  clear hW
  refine (Cmp_c v u r s _ (hv.below HW) (hu.below HW)).mono ?_
  rintro e w1 ⟨rfl, hb1⟩
  replace HW := HW.trans (hb1.mono (by omega))
  have hsg := sgn_sub_zero (r := r) (s := s)
  clear hb1 ka kb hv hu
  by_cases h : r = s
  · rw [hsg.2 h]
    go_wp2
    go_ret
    exact ⟨by rw [decide_eq_true h]; rfl, HW⟩
  · have h2 : (sgn (r - s) == 0) = false := by rw [beq_eq_false_iff_ne]; exact fun e => h (hsg.1 e)
    clear hsg
    generalize sgn (r - s) = k at *
    go_wp2
    go_ret
    exact ⟨by rw [decide_eq_false h]; rfl, HW⟩
end Go.Proofs.Ytplpkojikgeamaa

namespace Go.Proofs.Ytplpkojikgeamaa
set_option maxRecDepth 20000
open Go.RowKit

set_option maxHeartbeats 1600000 in
theorem Floor_plus (v : Rv) (a b : List Nat) (r : Rat) (w : World) (h1 : v.n ≤ v.c) (h2 : v.m ≤ v.d) (h3 : v.n ≤ 2000) (h4 : v.m ≤ 2000) (ha : Row w 0 v.A v.n a) (hb : Row w 0 v.B v.m b) (h0 : 0 < val b) (hs : v.s = false) (hr : rn false (val a / val b) 1 = r) :
    Calls Try.prog 16 #[.agg #[.bool v.s, .slice v.A v.n v.c, .slice v.B v.m v.d]] w fun e w' => ∃ v : Rv, e = .returned (.agg #[.bool v.s, .slice v.A v.n v.c, .slice v.B v.m v.d]) ∧ Rt w' w.heap.size v r ∧ Below w.heap.size w w' := by
  have HS := Lib.hid hs
  clear hs
  go_enter Try.func16, Try.ntmps16
  go_wp2_with fail
  generalize hW : ((w.alloc (.cells #[.bool v.s, .slice v.A v.n v.c, .slice v.B v.m v.d] 24)).alloc (.cells #[.bool false, .slice none 0 0, .slice none 0 0] 24)) = W
  obtain ⟨ka, kz, HW, hsW⟩ := open1z w v W hW
  clear hW
  refine (DivMod_pos v.A v.B v.n v.m v.c v.d (val a) (val b) a b _ (by omega) (by omega) h1 h2 (ha.below HW) (hb.below HW) rfl rfl h0).mono ?_
  rintro e w1 ⟨X, cx, Y, cy, rfl, hox, hoy, hb1⟩
  have hs1 := hb1.size
  replace ka := ka.below hb1
  replace kz := kz.below hb1
  replace HW := HW.trans (hb1.mono (by omega))
  have hrx := hox.row.lower (Nat.zero_le _)
  have hcx := hox.capLe
  have hry := hoy.row.lower (Nat.zero_le _)
  have hcy := hoy.capLe
  have hlq : (lim (val a / val b)).length ≤ 2000 := ((ha.bd h3).le (Nat.div_le_self _ _)).len
  have hlr : (lim (val a % val b)).length ≤ 2000 := ((ha.bd h3).le (Nat.mod_le _ _)).len
  clear hox hoy hb1 ha hb h0
  rw [HS.out] at ka
  obtain ⟨q0, q1, q2, g0, g1, g2⟩ := ka.facts
  go_wp2_with fail
  obtain ⟨q0, q1, q2, g0, g1, g2⟩ := ka.facts
  obtain ⟨z0, z1, z2, z3, z4, z5⟩ := kz.facts
  have hl7 : (lim 1).length ≤ 2 := lim_len_lt (by omega)
  go_region_held3 (fun w' => w'.cell? ⟨w.heap.size, 0, none⟩ = some (.bool false)) (go_keep)
      (first
      | (go_at_call 43
         refine (one_any _).mono ?_
         rintro e w7 ⟨B7, d7, rfl, ho7, hb7⟩
         obtain ⟨q0, q1, q2, g0, g1, g2⟩ := (ka.drew.below hb7).facts
         obtain ⟨z0, z1, z2, z3, z4, z5⟩ := (kz.drew.below hb7).facts)
      | (go_at_call 32
         refine (Of_nums false X B7 _ _ cx d7 (val a / val b) 1 _ _ r _ (val_lim _) (val_lim _) (by omega) (by omega) hcx ho7.capLe (hrx.drew.below hb7) (ho7.row.lower (Nat.zero_le _)) hr).mono ?_
         rintro e w8 ⟨z, rfl, hz, hb8⟩
         obtain ⟨q0, q1, q2, g0, g1, g2⟩ := ((ka.drew.below hb7).below hb8).facts
         obtain ⟨z0, z1, z2, z3, z4, z5⟩ := ((kz.drew.below hb7).below hb8).facts))
  have hs7 : w1.heap.size ≤ w7.heap.size := hb7.size
  have hs8 := hb8.size
  replace kz := (kz.drew.below hb7).below hb8
  have HB : Below w.heap.size w w8 := HW.trans ((below_drewN' w.heap.size w1 1).trans ((hb7.mono (by show _ ≤ w1.heap.size; omega)).trans (hb8.mono (by omega))))
  clear hb7 hb8 hrx ho7
  go_wp2
  refine ret3 (fn := Try.f16) Try.results16 rfl rfl kz ?_
  exact ⟨z, rfl, (hz.put (by omega) _ _ _).lower (by omega), HB.trans (put3_below (by omega) _ _ _)⟩

set_option maxHeartbeats 1600000 in
theorem Floor_even (v : Rv) (a b : List Nat) (r : Rat) (w : World) (h1 : v.n ≤ v.c) (h2 : v.m ≤ v.d) (h3 : v.n ≤ 2000) (h4 : v.m ≤ 2000) (ha : Row w 0 v.A v.n a) (hb : Row w 0 v.B v.m b) (h0 : 0 < val b) (hs : v.s = true) (hm : Hid (val a % val b = 0)) (hr : rn true (val a / val b) 1 = r) :
    Calls Try.prog 16 #[.agg #[.bool v.s, .slice v.A v.n v.c, .slice v.B v.m v.d]] w fun e w' => ∃ v : Rv, e = .returned (.agg #[.bool v.s, .slice v.A v.n v.c, .slice v.B v.m v.d]) ∧ Rt w' w.heap.size v r ∧ Below w.heap.size w w' := by
  have HS := Lib.hid hs
  clear hs
  go_enter Try.func16, Try.ntmps16
  go_wp2_with fail
  generalize hW : ((w.alloc (.cells #[.bool v.s, .slice v.A v.n v.c, .slice v.B v.m v.d] 24)).alloc (.cells #[.bool false, .slice none 0 0, .slice none 0 0] 24)) = W
  obtain ⟨ka, kz, HW, hsW⟩ := open1z w v W hW
  clear hW
  refine (DivMod_pos v.A v.B v.n v.m v.c v.d (val a) (val b) a b _ (by omega) (by omega) h1 h2 (ha.below HW) (hb.below HW) rfl rfl h0).mono ?_
  rintro e w1 ⟨X, cx, Y, cy, rfl, hox, hoy, hb1⟩
  have hs1 := hb1.size
  replace ka := ka.below hb1
  replace kz := kz.below hb1
  replace HW := HW.trans (hb1.mono (by omega))
  have hrx := hox.row.lower (Nat.zero_le _)
  have hcx := hox.capLe
  have hry := hoy.row.lower (Nat.zero_le _)
  have hcy := hoy.capLe
  have hlq : (lim (val a / val b)).length ≤ 2000 := ((ha.bd h3).le (Nat.div_le_self _ _)).len
  have hlr : (lim (val a % val b)).length ≤ 2000 := ((ha.bd h3).le (Nat.mod_le _ _)).len
  clear hox hoy hb1 ha hb h0
  rw [HS.out] at ka
  obtain ⟨q0, q1, q2, g0, g1, g2⟩ := ka.facts
  go_wp2_with fail
  refine (isNought_yes Y _ cy _ _ (by omega) hcy hry (by rw [val_lim]; exact hm.out)).mono ?_
  rintro e w2 ⟨rfl, rfl⟩
  go_wp2_with fail
  obtain ⟨q0, q1, q2, g0, g1, g2⟩ := ka.facts
  obtain ⟨z0, z1, z2, z3, z4, z5⟩ := kz.facts
  have hl7 : (lim 1).length ≤ 2 := lim_len_lt (by omega)
  go_region_held3 (fun w' => w'.cell? ⟨w.heap.size, 0, none⟩ = some (.bool true)) (go_keep)
      (first
      | (go_at_call 43
         refine (one_any _).mono ?_
         rintro e w7 ⟨B7, d7, rfl, ho7, hb7⟩
         obtain ⟨q0, q1, q2, g0, g1, g2⟩ := (ka.drew.below hb7).facts
         obtain ⟨z0, z1, z2, z3, z4, z5⟩ := (kz.drew.below hb7).facts)
      | (go_at_call 32
         refine (Of_nums true X B7 _ _ cx d7 (val a / val b) 1 _ _ r _ (val_lim _) (val_lim _) (by omega) (by omega) hcx ho7.capLe (hrx.drew.below hb7) (ho7.row.lower (Nat.zero_le _)) hr).mono ?_
         rintro e w8 ⟨z, rfl, hz, hb8⟩
         obtain ⟨q0, q1, q2, g0, g1, g2⟩ := ((ka.drew.below hb7).below hb8).facts
         obtain ⟨z0, z1, z2, z3, z4, z5⟩ := ((kz.drew.below hb7).below hb8).facts))
  have hs7 : w1.heap.size ≤ w7.heap.size := hb7.size
  have hs8 := hb8.size
  replace kz := (kz.drew.below hb7).below hb8
  have HB : Below w.heap.size w w8 := HW.trans ((below_drewN' w.heap.size w1 1).trans ((hb7.mono (by show _ ≤ w1.heap.size; omega)).trans (hb8.mono (by omega))))
  clear hb7 hb8 hrx ho7
  go_wp2
  refine ret3 (fn := Try.f16) Try.results16 rfl rfl kz ?_
  exact ⟨z, rfl, (hz.put (by omega) _ _ _).lower (by omega), HB.trans (put3_below (by omega) _ _ _)⟩

set_option maxHeartbeats 1600000 in
theorem Floor_more (v : Rv) (a b : List Nat) (r : Rat) (w : World) (h1 : v.n ≤ v.c) (h2 : v.m ≤ v.d) (h3 : v.n ≤ 2000) (h4 : v.m ≤ 2000) (ha : Row w 0 v.A v.n a) (hb : Row w 0 v.B v.m b) (h0 : 0 < val b) (hs : v.s = true) (hm : Hid (val a % val b ≠ 0)) (hr : rn true (val a / val b + 1) 1 = r) :
    Calls Try.prog 16 #[.agg #[.bool v.s, .slice v.A v.n v.c, .slice v.B v.m v.d]] w fun e w' => ∃ v : Rv, e = .returned (.agg #[.bool v.s, .slice v.A v.n v.c, .slice v.B v.m v.d]) ∧ Rt w' w.heap.size v r ∧ Below w.heap.size w w' := by
  have HS := Lib.hid hs
  clear hs
  go_enter Try.func16, Try.ntmps16
  go_wp2_with fail
  generalize hW : ((w.alloc (.cells #[.bool v.s, .slice v.A v.n v.c, .slice v.B v.m v.d] 24)).alloc (.cells #[.bool false, .slice none 0 0, .slice none 0 0] 24)) = W
  obtain ⟨ka, kz, HW, hsW⟩ := open1z w v W hW
  clear hW
  refine (DivMod_pos v.A v.B v.n v.m v.c v.d (val a) (val b) a b _ (by omega) (by omega) h1 h2 (ha.below HW) (hb.below HW) rfl rfl h0).mono ?_
  rintro e w1 ⟨X, cx, Y, cy, rfl, hox, hoy, hb1⟩
  have hs1 := hb1.size
  replace ka := ka.below hb1
  replace kz := kz.below hb1
  replace HW := HW.trans (hb1.mono (by omega))
  have hrx := hox.row.lower (Nat.zero_le _)
  have hcx := hox.capLe
  have hry := hoy.row.lower (Nat.zero_le _)
  have hcy := hoy.capLe
  have hlq : (lim (val a / val b)).length ≤ 2000 := ((ha.bd h3).le (Nat.div_le_self _ _)).len
  have hlr : (lim (val a % val b)).length ≤ 2000 := ((ha.bd h3).le (Nat.mod_le _ _)).len
  clear hox hoy hb1 ha hb h0
  rw [HS.out] at ka
  obtain ⟨q0, q1, q2, g0, g1, g2⟩ := ka.facts
  go_wp2_with fail
  refine (isNought_no Y _ cy _ _ (by omega) hcy hry (by rw [val_lim]; exact hm.out)).mono ?_
  rintro e w2 ⟨rfl, rfl⟩
  go_wp2_with fail
  refine (one_any _).mono ?_
  rintro e w3 ⟨B3, d3, rfl, ho3, hb3⟩
  have hs3 := hb3.size
  replace hrx := hrx.below hb3
  have hr3 := ho3.row.lower (Nat.zero_le _)
  have hc3 := ho3.capLe
  replace kz := kz.below hb3
  replace ka := ka.below hb3
  replace HW := HW.trans (hb3.mono (by omega))
  have hl3 : (lim 1).length ≤ 2 := lim_len_lt (by omega)
  clear ho3 hb3 hry
  go_wp2_with fail
  refine (Add_v (val a / val b) 1 X B3 _ _ cx d3 _ _ _ (val_lim _) (val_lim _) (by omega) (by omega) hcx hc3 hrx hr3).mono ?_
  rintro e w4 ⟨X4, cx4, rfl, ho4, hb4⟩
  have hs4 := hb4.size
  replace kz := kz.below hb4
  replace ka := ka.below hb4
  replace HW := HW.trans (hb4.mono (by omega))
  have hlq4 : (lim (val a / val b + 1)).length ≤ 2001 := by
    have h5 : Bd (val a / val b) 2000 := Bd.ofLen hlq
    have h7 : Bd 1 1 := by show (1 : Nat) < 4294967296 ^ 1; omega
    exact ((h5.add h7).more (by omega)).len
  replace hrx := ho4.row.lower (Nat.zero_le _)
  replace hcx := ho4.capLe
  clear ho4 hb4 hr3
  go_wp2_with fail
  obtain ⟨q0, q1, q2, g0, g1, g2⟩ := ka.facts
  obtain ⟨z0, z1, z2, z3, z4, z5⟩ := kz.facts
  have hl7 : (lim 1).length ≤ 2 := lim_len_lt (by omega)
  go_region_held3 (fun w' => w'.cell? ⟨w.heap.size, 0, none⟩ = some (.bool true)) (go_keep)
      (first
      | (go_at_call 43
         refine (one_any _).mono ?_
         rintro e w7 ⟨B7, d7, rfl, ho7, hb7⟩
         obtain ⟨q0, q1, q2, g0, g1, g2⟩ := (ka.drew.below hb7).facts
         obtain ⟨z0, z1, z2, z3, z4, z5⟩ := (kz.drew.below hb7).facts)
      | (go_at_call 32
         refine (Of_nums true X4 B7 _ _ cx4 d7 (val a / val b + 1) 1 _ _ r _ (val_lim _) (val_lim _) (by omega) (by omega) hcx ho7.capLe (hrx.drew.below hb7) (ho7.row.lower (Nat.zero_le _)) hr).mono ?_
         rintro e w8 ⟨z, rfl, hz, hb8⟩
         obtain ⟨q0, q1, q2, g0, g1, g2⟩ := ((ka.drew.below hb7).below hb8).facts
         obtain ⟨z0, z1, z2, z3, z4, z5⟩ := ((kz.drew.below hb7).below hb8).facts))
  have hs7 : w4.heap.size ≤ w7.heap.size := hb7.size
  have hs8 := hb8.size
  replace kz := (kz.drew.below hb7).below hb8
  have HB : Below w.heap.size w w8 := HW.trans ((below_drewN' w.heap.size w4 1).trans ((hb7.mono (by show _ ≤ w4.heap.size; omega)).trans (hb8.mono (by omega))))
  clear hb7 hb8 hrx ho7
  go_wp2
  refine ret3 (fn := Try.f16) Try.results16 rfl rfl kz ?_
  exact ⟨z, rfl, (hz.put (by omega) _ _ _).lower (by omega), HB.trans (put3_below (by omega) _ _ _)⟩

set_option maxHeartbeats 1600000 in
theorem Floor_zero_false (v : Rv) (a b : List Nat) (r : Rat) (w : World) (h1 : v.n ≤ v.c) (h2 : v.m ≤ v.d) (h3 : v.n ≤ 2000) (h4 : v.m ≤ 2000) (ha : Row w 0 v.A v.n a) (hb : Row w 0 v.B v.m b) (h0 : Hid (val b = 0)) (hs : v.s = false) (hr : rn false 0 1 = r) :
    Calls Try.prog 16 #[.agg #[.bool v.s, .slice v.A v.n v.c, .slice v.B v.m v.d]] w fun e w' => ∃ v : Rv, e = .returned (.agg #[.bool v.s, .slice v.A v.n v.c, .slice v.B v.m v.d]) ∧ Rt w' w.heap.size v r ∧ Below w.heap.size w w' := by
  have HS := Lib.hid hs
  clear hs
  go_enter Try.func16, Try.ntmps16
  go_wp2_with fail
  generalize hW : ((w.alloc (.cells #[.bool v.s, .slice v.A v.n v.c, .slice v.B v.m v.d] 24)).alloc (.cells #[.bool false, .slice none 0 0, .slice none 0 0] 24)) = W
  obtain ⟨ka, kz, HW, hsW⟩ := open1z w v W hW
  clear hW
  refine (DivMod_zero v.A v.B v.n v.m v.c v.d a b _ (by omega) (by omega) h1 h2 (ha.below HW) (hb.below HW) h0.out).mono ?_
  rintro e w1 ⟨rfl, rfl⟩
  have hrx : Row W 0 none 0 [] := Row.nil_ _ _ _
  clear ha hb h0
  rw [HS.out] at ka
  obtain ⟨q0, q1, q2, g0, g1, g2⟩ := ka.facts
  go_wp2_with fail
  obtain ⟨q0, q1, q2, g0, g1, g2⟩ := ka.facts
  obtain ⟨z0, z1, z2, z3, z4, z5⟩ := kz.facts
  have hl7 : (lim 1).length ≤ 2 := lim_len_lt (by omega)
  go_region_held3 (fun w' => w'.cell? ⟨w.heap.size, 0, none⟩ = some (.bool false)) (go_keep)
      (first
      | (go_at_call 43
         refine (one_any _).mono ?_
         rintro e w7 ⟨B7, d7, rfl, ho7, hb7⟩
         obtain ⟨q0, q1, q2, g0, g1, g2⟩ := (ka.drew.below hb7).facts
         obtain ⟨z0, z1, z2, z3, z4, z5⟩ := (kz.drew.below hb7).facts)
      | (go_at_call 32
         refine (Of_nums false none B7 _ _ 0 d7 (0) 1 _ _ r _ rfl (val_lim _) (by omega) (by omega) (Nat.le_refl _) ho7.capLe (hrx.drew.below hb7) (ho7.row.lower (Nat.zero_le _)) hr).mono ?_
         rintro e w8 ⟨z, rfl, hz, hb8⟩
         obtain ⟨q0, q1, q2, g0, g1, g2⟩ := ((ka.drew.below hb7).below hb8).facts
         obtain ⟨z0, z1, z2, z3, z4, z5⟩ := ((kz.drew.below hb7).below hb8).facts))
  have hs7 : W.heap.size ≤ w7.heap.size := hb7.size
  have hs8 := hb8.size
  replace kz := (kz.drew.below hb7).below hb8
  have HB : Below w.heap.size w w8 := HW.trans ((below_drewN' w.heap.size W 1).trans ((hb7.mono (by show _ ≤ W.heap.size; omega)).trans (hb8.mono (by omega))))
  clear hb7 hb8 hrx ho7
  go_wp2
  refine ret3 (fn := Try.f16) Try.results16 rfl rfl kz ?_
  exact ⟨z, rfl, (hz.put (by omega) _ _ _).lower (by omega), HB.trans (put3_below (by omega) _ _ _)⟩

set_option maxHeartbeats 1600000 in
theorem Floor_zero_true (v : Rv) (a b : List Nat) (r : Rat) (w : World) (h1 : v.n ≤ v.c) (h2 : v.m ≤ v.d) (h3 : v.n ≤ 2000) (h4 : v.m ≤ 2000) (ha : Row w 0 v.A v.n a) (hb : Row w 0 v.B v.m b) (h0 : Hid (val b = 0)) (hs : v.s = true) (hr : rn true 0 1 = r) :
    Calls Try.prog 16 #[.agg #[.bool v.s, .slice v.A v.n v.c, .slice v.B v.m v.d]] w fun e w' => ∃ v : Rv, e = .returned (.agg #[.bool v.s, .slice v.A v.n v.c, .slice v.B v.m v.d]) ∧ Rt w' w.heap.size v r ∧ Below w.heap.size w w' := by
  have HS := Lib.hid hs
  clear hs
  go_enter Try.func16, Try.ntmps16
  go_wp2_with fail
  generalize hW : ((w.alloc (.cells #[.bool v.s, .slice v.A v.n v.c, .slice v.B v.m v.d] 24)).alloc (.cells #[.bool false, .slice none 0 0, .slice none 0 0] 24)) = W
  obtain ⟨ka, kz, HW, hsW⟩ := open1z w v W hW
  clear hW
  refine (DivMod_zero v.A v.B v.n v.m v.c v.d a b _ (by omega) (by omega) h1 h2 (ha.below HW) (hb.below HW) h0.out).mono ?_
  rintro e w1 ⟨rfl, rfl⟩
  have hrx : Row W 0 none 0 [] := Row.nil_ _ _ _
  clear ha hb h0
  rw [HS.out] at ka
  obtain ⟨q0, q1, q2, g0, g1, g2⟩ := ka.facts
  go_wp2_with fail
  refine (isNought_yes none 0 0 [] _ (by omega) (by omega) (Row.nil_ _ _ _) rfl).mono ?_
  rintro e w2 ⟨rfl, rfl⟩
  go_wp2_with fail
  obtain ⟨q0, q1, q2, g0, g1, g2⟩ := ka.facts
  obtain ⟨z0, z1, z2, z3, z4, z5⟩ := kz.facts
  have hl7 : (lim 1).length ≤ 2 := lim_len_lt (by omega)
  go_region_held3 (fun w' => w'.cell? ⟨w.heap.size, 0, none⟩ = some (.bool true)) (go_keep)
      (first
      | (go_at_call 43
         refine (one_any _).mono ?_
         rintro e w7 ⟨B7, d7, rfl, ho7, hb7⟩
         obtain ⟨q0, q1, q2, g0, g1, g2⟩ := (ka.drew.below hb7).facts
         obtain ⟨z0, z1, z2, z3, z4, z5⟩ := (kz.drew.below hb7).facts)
      | (go_at_call 32
         refine (Of_nums true none B7 _ _ 0 d7 (0) 1 _ _ r _ rfl (val_lim _) (by omega) (by omega) (Nat.le_refl _) ho7.capLe (hrx.drew.below hb7) (ho7.row.lower (Nat.zero_le _)) hr).mono ?_
         rintro e w8 ⟨z, rfl, hz, hb8⟩
         obtain ⟨q0, q1, q2, g0, g1, g2⟩ := ((ka.drew.below hb7).below hb8).facts
         obtain ⟨z0, z1, z2, z3, z4, z5⟩ := ((kz.drew.below hb7).below hb8).facts))
  have hs7 : W.heap.size ≤ w7.heap.size := hb7.size
  have hs8 := hb8.size
  replace kz := (kz.drew.below hb7).below hb8
  have HB : Below w.heap.size w w8 := HW.trans ((below_drewN' w.heap.size W 1).trans ((hb7.mono (by show _ ≤ W.heap.size; omega)).trans (hb8.mono (by omega))))
  clear hb7 hb8 hrx ho7
  go_wp2
  refine ret3 (fn := Try.f16) Try.results16 rfl rfl kz ?_
  exact ⟨z, rfl, (hz.put (by omega) _ _ _).lower (by omega), HB.trans (put3_below (by omega) _ _ _)⟩


theorem Floor_c (v : Rv) (r : Rat) (w : World) (hv : Rw w v r 2000) :
    Calls Try.prog 16 #[.agg #[.bool v.s, .slice v.A v.n v.c, .slice v.B v.m v.d]] w fun e w' => ∃ v : Rv, e = .returned (.agg #[.bool v.s, .slice v.A v.n v.c, .slice v.B v.m v.d]) ∧ Rt w' w.heap.size v ((r.floor : Int) : Rat) ∧ Below w.heap.size w w' := by
  obtain ⟨h1, h2, h3, h4, a, b, ha, hb, hr⟩ := hv
  subst hr
  by_cases h0 : val b = 0
  · have e : ∀ s, rn s 0 1 = (((rn v.s (val a) (val b)).floor : Int) : Rat) := by
      intro s
      rw [h0, rn_zero (.inl rfl), rn_zero (.inr rfl)]
      exact (congrArg (fun z : Int => (z : Rat)) (show (0 : Rat).floor = 0 from rfl)).symm
    rcases Bool.eq_false_or_eq_true v.s with hs | hs
    rotate_left
    · exact Floor_zero_false v a b _ w h1 h2 h3 h4 ha hb h0 hs (by rw [← hs]; exact e _)
    · exact Floor_zero_true v a b _ w h1 h2 h3 h4 ha hb h0 hs (by rw [← hs]; exact e _)
  · have hf := rn_floor v.s (x := val a) h0
    rcases Bool.eq_false_or_eq_true v.s with hs | hs
    rotate_left
    · rw [hs, if_neg (by rintro ⟨h, _⟩; cases h), Nat.add_zero] at hf
      exact Floor_plus v a b _ w h1 h2 h3 h4 ha hb (Nat.pos_of_ne_zero h0) hs (by rw [hs]; exact hf.symm)
    · rw [hs] at hf
      by_cases hm : val a % val b = 0
      · rw [if_neg (by rintro ⟨_, h⟩; exact h hm), Nat.add_zero] at hf
        exact Floor_even v a b _ w h1 h2 h3 h4 ha hb (Nat.pos_of_ne_zero h0) hs hm (by rw [hs]; exact hf.symm)
      · rw [if_pos ⟨rfl, hm⟩] at hf
        exact Floor_more v a b _ w h1 h2 h3 h4 ha hb (Nat.pos_of_ne_zero h0) hs hm (by rw [hs]; exact hf.symm)
end Go.Proofs.Ytplpkojikgeamaa

namespace Go.Proofs.Ytplpkojikgeamaa
set_option maxRecDepth 20000
open Go.RowKit

theorem limbs_eq (A A' : Option Addr) (n n' c c' : Nat) (l l' : List Nat) (w : World) (hn : n ≤ 1000000) (hr : Row w 0 A n l) (hr' : Row w 0 A' n' l') (hl : l = l') :
    Calls Try.prog 34 #[.slice A n c, .slice A' n' c'] w fun e w' => e = .returned (.bool true) ∧ Below w.heap.size w w' := by
  subst hl
  have e : n' = n := by rw [← hr.len, ← hr'.len]
  subst e
  refine (limbs_yes A A' n' c c' l w hn hr hr').mono ?_
  rintro e w' ⟨rfl, q, rfl⟩
  exact ⟨rfl, rfl, rfl, rfl, Nat.le_refl _, fun _ _ => rfl⟩

set_option maxHeartbeats 800000 in
/-- Two normal readings of one number. -/
theorem one_yes (v u : Rv) (r s : Rat) (w : World) (lo lo' : Nat) (hv : Rt w lo v r) (hu : Rt w lo' u s) (h : r = s) (hn : v.n ≤ 100000) (hm : v.m ≤ 100000) :
    Calls Try.prog 9 #[.agg #[.bool v.s, .slice v.A v.n v.c, .slice v.B v.m v.d], .agg #[.bool u.s, .slice u.A u.n u.c, .slice u.B u.m u.d]] w fun e w' => e = .returned (.bool true) ∧ Below w.heap.size w w' := by
  subst h
  obtain ⟨h0, h1, h2, h3, h4, h5, h6⟩ := hv
  obtain ⟨g0, g1, g2, g3, g4, g5, g6⟩ := hu
  have hss : v.s = u.s := by rw [h0, g0]
  have hsb : (v.s == u.s) = true := by rw [hss]; simp
  clear h0 g0 h1 g1 h4 g4 hss
  replace h3 := h3.lower (Nat.zero_le lo)
  replace g3 := g3.lower (Nat.zero_le lo')
  replace h6 := h6.lower (Nat.zero_le lo)
  replace g6 := g6.lower (Nat.zero_le lo')
  go_enter Try.func9, Try.ntmps9
  go_wp2_with fail
  generalize hW : ((w.alloc (.cells #[.bool v.s, .slice v.A v.n v.c, .slice v.B v.m v.d] 24)).alloc (.cells #[.bool u.s, .slice u.A u.n u.c, .slice u.B u.m u.d] 24)) = W
  obtain ⟨ka, kb, HW, hsW⟩ := open2 w v u W hW
  clear hW
  refine (limbs_eq v.A u.A v.n u.n v.c u.c _ _ _ (by omega) (h3.below HW) (g3.below HW) rfl).mono ?_
  rintro e w1 ⟨rfl, hb1⟩
  replace ka := ka.below hb1
  replace kb := kb.below hb1
  replace HW := HW.trans (hb1.mono (by omega))
  obtain ⟨a0, a1, a2, a3, a4, a5⟩ := ka.facts
  obtain ⟨b0, b1, b2, b3, b4, b5⟩ := kb.facts
  have hs1 := hb1.size
  clear hb1
  go_wp2_with fail
  refine (limbs_eq v.B u.B v.m u.m v.d u.d _ _ _ (by omega) (h6.below HW) (g6.below HW) rfl).mono ?_
  rintro e w2 ⟨rfl, hb2⟩
  replace HW := HW.trans (hb2.mono (by omega))
  clear hb2
  go_wp2
  go_ret
  exact ⟨rfl, HW⟩

theorem lim_one_limb {x : Nat} (h0 : x ≠ 0) (h1 : x < 4294967296) : lim x = [x] := by
  rw [lim_pos h0, Nat.mod_eq_of_lt h1, Nat.div_eq_of_lt h1, lim_zero]
theorem Rt.lit {w : World} {A B : Option Addr} {c d x y : Nat} (hx0 : x ≠ 0) (hx : x < 4294967296) (hy0 : y ≠ 0) (hy : y < 4294967296) (hg : Nat.gcd x y = 1) (hc : 1 ≤ c) (hd : 1 ≤ d) (h1 : Row w 0 A 1 [x]) (h2 : Row w 0 B 1 [y]) :
    Rt w 0 ⟨false, A, 1, c, B, 1, d⟩ (rn false x y) := by
  refine Rt.parts hx0 hy0 rfl ?_ ?_ hc hd ?_ ?_
  · rw [hg, Nat.div_one, lim_one_limb hx0 hx]; rfl
  · rw [hg, Nat.div_one, lim_one_limb hy0 hy]; rfl
  · rw [hg, Nat.div_one, lim_one_limb hx0 hx]; exact h1
  · rw [hg, Nat.div_one, lim_one_limb hy0 hy]; exact h2
theorem Sz.lit {x y : Nat} {s : Bool} (hx : x < 4294967296) (hy : y < 4294967296) : Sz (Go.Proofs.Ytplpkojikgeamaa.rn s x y) 1 :=
  Sz.ofRn rfl (show x < 4294967296 ^ 1 by omega) (show y < 4294967296 ^ 1 by omega) (by omega)
theorem known_sum : rn false 1 2 + rn false 1 3 = rn false 5 6 := rn_add false (by omega) (by omega)

/-- A row of one limb, of a literal of the call's own. -/
theorem Row.lit (w : World) (x : Nat) (v : Int) (hv : v = (x : Int)) (hx : x < 4294967296) : Row (w.alloc (.cells #[.int .u32 v] 25)) 0 (some ⟨w.heap.size, 0, none⟩) 1 [x] := Row.one hv hx (Nat.zero_le _)

set_option maxHeartbeats 1600000 in
theorem known_any (w : World) : Calls Try.prog 13 #[] w fun e w' => e = .returned (.bool true) ∧ Below w.heap.size w w' := by
  obtain ⟨W4, hW4⟩ : ∃ W, W = ((((w.alloc (.cells #[.int .u32 1] 25)).alloc (.cells #[.int .u32 2] 25)).alloc (.cells #[.int .u32 1] 25)).alloc (.cells #[.int .u32 3] 25)) := ⟨_, rfl⟩
  have e1 : (w.alloc (.cells #[.int .u32 1] 25)).heap.size = w.heap.size + 1 := by simp
  have e2 : ((w.alloc (.cells #[.int .u32 1] 25)).alloc (.cells #[.int .u32 2] 25)).heap.size = w.heap.size + 1 + 1 := by simp
  have e3 : (((w.alloc (.cells #[.int .u32 1] 25)).alloc (.cells #[.int .u32 2] 25)).alloc (.cells #[.int .u32 1] 25)).heap.size = w.heap.size + 1 + 1 + 1 := by simp
  have r1 : Row W4 0 (some ⟨w.heap.size, 0, none⟩) 1 [1] := by rw [hW4]; exact (((Row.lit w 1 1 rfl (by omega)).alloc _).alloc _).alloc _
  have r2 : Row W4 0 (some ⟨w.heap.size + 1, 0, none⟩) 1 [2] := by
    rw [hW4]; have := Row.lit (w.alloc (.cells #[.int .u32 1] 25)) 2 2 rfl (by omega)
    rw [e1] at this; exact (this.alloc _).alloc _
  have r3 : Row W4 0 (some ⟨w.heap.size + 1 + 1, 0, none⟩) 1 [1] := by
    rw [hW4]; have := Row.lit ((w.alloc (.cells #[.int .u32 1] 25)).alloc (.cells #[.int .u32 2] 25)) 1 1 rfl (by omega)
    rw [e2] at this; exact this.alloc _
  have r4 : Row W4 0 (some ⟨w.heap.size + 1 + 1 + 1, 0, none⟩) 1 [3] := by
    rw [hW4]; have := Row.lit (((w.alloc (.cells #[.int .u32 1] 25)).alloc (.cells #[.int .u32 2] 25)).alloc (.cells #[.int .u32 1] 25)) 3 3 rfl (by omega)
    rw [e3] at this; exact this
  have v1 : Rt W4 0 ⟨false, some ⟨w.heap.size, 0, none⟩, 1, 1, some ⟨w.heap.size + 1, 0, none⟩, 1, 1⟩ (rn false 1 2) := Rt.lit (by omega) (by omega) (by omega) (by omega) (by decide) (by omega) (by omega) r1 r2
  have v2 : Rt W4 0 ⟨false, some ⟨w.heap.size + 1 + 1, 0, none⟩, 1, 1, some ⟨w.heap.size + 1 + 1 + 1, 0, none⟩, 1, 1⟩ (rn false 1 3) := Rt.lit (by omega) (by omega) (by omega) (by omega) (by decide) (by omega) (by omega) r3 r4
  have HW : Below w.heap.size w W4 := by
    rw [hW4]; exact ((((Below.refl w.heap.size w).alloc (Nat.le_refl _) _).alloc (by simp) _).alloc (by simp; omega) _).alloc (by simp; omega) _
  have h4 : W4.heap.size = w.heap.size + 4 := by rw [hW4]; simp
  clear r1 r2 r3 r4 e1 e2 e3
  go_enter Try.func13, Try.ntmps13
  go_wp2_with fail
  rw [← hW4]
  clear hW4
  have w1 := (v1.rw (Sz.lit (x := 1) (y := 2) (by omega) (by omega))).more (show 1 ≤ 2000 by omega)
  have w2 := (v2.rw (Sz.lit (x := 1) (y := 3) (by omega) (by omega))).more (show 1 ≤ 2000 by omega)
  clear v1 v2
  refine (Add_c ⟨false, some ⟨w.heap.size, 0, none⟩, 1, 1, some ⟨w.heap.size + 1, 0, none⟩, 1, 1⟩ ⟨false, some ⟨w.heap.size + 1 + 1, 0, none⟩, 1, 1, some ⟨w.heap.size + 1 + 1 + 1, 0, none⟩, 1, 1⟩ _ _ _ ((w1.alloc _).alloc _) ((w2.alloc _).alloc _)).mono ?_
  rintro e w3 ⟨z, rfl, hz, hb1⟩
  have hb0 : Below w.heap.size w w3 := (((HW.alloc (by omega) _).alloc (by simp; omega) _).trans (hb1.mono (by simp; omega)))
  have hs3 := hb1.size
  rw [known_sum] at hz
  clear hb1 w1 w2
  go_wp2_with fail
  have hzs := hz.rw (Sz.lit (x := 5) (y := 6) (by omega) (by omega))
  have hzn := hzs.numLe
  have hzm := hzs.denLe
  have r5 : Row ((w3.alloc (.cells #[.int .u32 5] 25)).alloc (.cells #[.int .u32 6] 25)) 0 (some ⟨w3.heap.size, 0, none⟩) 1 [5] := (Row.lit w3 5 5 rfl (by omega)).alloc _
  have e5 : (w3.alloc (.cells #[.int .u32 5] 25)).heap.size = w3.heap.size + 1 := by simp
  have r6 : Row ((w3.alloc (.cells #[.int .u32 5] 25)).alloc (.cells #[.int .u32 6] 25)) 0 (some ⟨w3.heap.size + 1, 0, none⟩) 1 [6] := by
    have := Row.lit (w3.alloc (.cells #[.int .u32 5] 25)) 6 6 rfl (by omega)
    rw [e5] at this; exact this
  have HB5 := ((hb0.alloc (by simp at hs3; omega) (.cells #[.int .u32 5] 25)).alloc (by simp at hs3 ⊢; omega) (.cells #[.int .u32 6] 25))
  have hz5 := (hz.below ((Below.refl _ _).alloc (Nat.le_refl _) (.cells #[.int .u32 5] 25))).below ((Below.refl _ _).alloc (Nat.le_refl _) (.cells #[.int .u32 6] 25))
  have v5 := Rt.lit (w := (w3.alloc (.cells #[.int .u32 5] 25)).alloc (.cells #[.int .u32 6] 25)) (by omega) (by omega) (by omega) (by omega) (by decide) (Nat.le_refl _) (Nat.le_refl _) r5 r6
  have hsz5 : w.heap.size ≤ ((w3.alloc (.cells #[.int .u32 5] 25)).alloc (.cells #[.int .u32 6] 25)).heap.size := HB5.size
  refine (one_yes z ⟨false, some ⟨w3.heap.size, 0, none⟩, 1, 1, some ⟨w3.heap.size + 1, 0, none⟩, 1, 1⟩ _ _ _ _ _ hz5 v5 rfl (by omega) (by omega)).mono ?_
  rintro e w6 ⟨rfl, hb6⟩
  have HB := HB5.trans (hb6.mono hsz5)
  clear hb6 HB5 v5 r5 r6 hz hz5 hzs e5 hsz5 hs3
  go_wp2
  go_ret
  exact ⟨rfl, HB⟩
end Go.Proofs.Ytplpkojikgeamaa

namespace Go.Proofs.Ytplpkojikgeamaa
set_option maxRecDepth 20000
open Go.RowKit

/-- How many limbs the first i rationals hold. -/
def tot (f : Nat → Rv) : Nat → Nat
  | 0 => 0
  | i + 1 => tot f i + (f i).n + (f i).m
theorem tot_succ (f : Nat → Rv) (i : Nat) : tot f (i + 1) = tot f i + (f i).n + (f i).m := rfl
theorem tot_mono (f : Nat → Rv) {i j : Nat} (h : i ≤ j) : tot f i ≤ tot f j := by
  induction j with
  | zero => have : i = 0 := by omega
            subst this; exact Nat.le_refl _
  | succ j ih =>
    by_cases e : i = j + 1
    · subst e; exact Nat.le_refl _
    · have := ih (by omega)
      rw [tot_succ]; omega

set_option maxHeartbeats 1600000 in
theorem big_any (f : Nat → Rv) (g k : Nat) (w : World) (hk : k ≤ 10) (hlen : ∀ i, i < k → (f i).n ≤ 1000000000000000 ∧ (f i).m ≤ 1000000000000000)
    (hc : ∀ i, i < k → w.cell? ⟨g, i * 3 + 1, none⟩ = some (.slice (f i).A (f i).n (f i).c) ∧ w.cell? ⟨g, i * 3 + 2, none⟩ = some (.slice (f i).B (f i).m (f i).d)) :
    Calls Try.prog 6 #[.slice (some ⟨g, 0, none⟩) k k] w fun e w' => e = .returned (.bool (decide (16 < tot f k))) ∧ Below w.heap.size w w' := by
  have HC := Lib.hid hc
  have HL := Lib.hid hlen
  clear hc hlen
  go_enter Try.func6, Try.ntmps6
  go_wp2
  go_loopw [3, 4] (fun nv iv wr => ∃ i q : Nat, i ≤ k ∧ nv = .int .i64 (tot f i) ∧ iv = .int .i64 i ∧ wr = w.drewN q ∧ tot f i ≤ 16) (fun _ iv _ => k - (intOf iv).toNat)
  case atStart => exact ⟨0, 0, Nat.zero_le _, rfl, rfl, rfl, by simp [tot]⟩
  case round =>
    obtain ⟨i, q, hi, rfl, rfl, rfl, ht⟩ := hrel
    by_cases h0 : i < k
    · obtain ⟨hc1, hc2⟩ := HC.out i h0
      obtain ⟨hl1, hl2⟩ := HL.out i h0
      have ht' := tot_succ f i
      have hmon := Lib.hid (tot_mono f (show i + 1 ≤ k from h0))
      generalize (f i).n = n1 at *
      generalize (f i).m = m1 at *
      generalize (f i).c = c1 at *
      generalize (f i).d = d1 at *
      have hT : Hid (tot f (i + 1) = tot f i + n1 + m1) := ht'
      clear ht'
      generalize htt : tot f i = t at *
      have HT := Lib.hid htt
      clear htt
      go_wp2
      go_quiet (fail)
      go_wp2
      · go_ret
        refine ⟨?_, below_drewN' _ _ _⟩
        have h1 := hmon.out
        have h2 := hT.out
        rw [decide_eq_true (show 16 < tot f k by omega)]; rfl
      · have h2 := hT.out
        refine ⟨⟨i + 1, _, by omega, ?_, by simp, rfl, by omega⟩, by simp [intOf]; omega⟩
        rw [h2]; simp
    · have e : i = k := by omega
      have HE := Lib.hid e
      have HT := Lib.hid ht
      clear e ht
      go_wp2
      go_ret
      refine ⟨?_, below_drewN' _ _ _⟩
      have h1 := HT.out
      rw [HE.out] at h1
      rw [decide_eq_false (show ¬ 16 < tot f k by omega)]; rfl
end Go.Proofs.Ytplpkojikgeamaa

namespace Go.Proofs.Ytplpkojikgeamaa
set_option maxRecDepth 20000
open Go.RowKit

theorem Sz.more {r : Rat} {p q : Nat} (h : Sz r p) (hq : p ≤ q) : Sz r q := ⟨h.num.more hq, h.den.more hq⟩
theorem Sz.pos {r : Rat} {p : Nat} (h : Sz r p) : 0 < p := by
  have h1 := h.den
  unfold Bd at h1
  have := r.den_pos
  rcases Nat.eq_zero_or_pos p with rfl | h2
  · simp at h1; omega
  · exact h2
theorem Sz.add {r s : Rat} {p q : Nat} (hr : Sz r p) (hs : Sz s q) : Sz (r + s) (p + q + 1) := by
  have er := rn_self r
  have es := rn_self s
  have hy := r.den_nz
  have hv := s.den_nz
  have bx := hr.num
  have bY := hr.den
  have bu := hs.num
  have bv := hs.den
  generalize decide (r.num < 0) = a at *
  generalize decide (s.num < 0) = b at *
  generalize r.num.natAbs = x at *
  generalize r.den = y at *
  generalize s.num.natAbs = u at *
  generalize s.den = v at *
  have hxv : Bd (x * v) (p + q) := bx.mul bv
  have huy : Bd (u * y) (q + p) := bu.mul bY
  have hd : Bd (y * v) (p + q + 1) := (bY.mul bv).more (by omega)
  have hsum : Bd (x * v + u * y) (p + q + 1) := (hxv.add huy).more (by omega)
  subst er es
  by_cases hab : b = a
  · subst hab
    exact Sz.ofRn (rn_add b hy hv).symm hsum hd (by omega)
  · have hab' : b = !a := by cases a <;> cases b <;> simp at hab ⊢
    rcases Nat.le_total (u * y) (x * v) with h | h
    · exact Sz.ofRn (rn_sub hab' hy hv h).symm (hsum.le (by omega)) hd (by omega)
    · exact Sz.ofRn (rn_sub' hab' hy hv h).symm (hsum.le (by omega)) hd (by omega)
theorem Sz.mul {r s : Rat} {p q : Nat} (hr : Sz r p) (hs : Sz s q) : Sz (r * s) (p + q) := by
  have e : r * s = Go.Proofs.Ytplpkojikgeamaa.rn (decide (r.num < 0) != decide (s.num < 0)) (r.num.natAbs * s.num.natAbs) (r.den * s.den) := by
    rw [← rn_mul, rn_self, rn_self]
  exact Sz.ofRn e.symm (hr.num.mul hs.num) (hr.den.mul hs.den) (by have := hr.pos; omega)
theorem Sz.neg {r : Rat} {p : Nat} (hr : Sz r p) : Sz (-r) p := by
  refine ⟨?_, ?_⟩
  · rw [Rat.neg_num, Int.natAbs_neg]; exact hr.num
  · rw [Rat.neg_den]; exact hr.den
theorem Sz.sub {r s : Rat} {p q : Nat} (hr : Sz r p) (hs : Sz s q) : Sz (r - s) (p + q + 1) := by
  rw [Rat.sub_eq_add_neg]; exact hr.add hs.neg
theorem Sz.div {r s : Rat} {p q : Nat} (hr : Sz r p) (hs : Sz s q) (h0 : s ≠ 0) : Sz (r / s) (p + q) := by
  have hn : s.num.natAbs ≠ 0 := by have := num_ne h0; omega
  have e : r / s = Go.Proofs.Ytplpkojikgeamaa.rn (decide (r.num < 0) != decide (s.num < 0)) (r.num.natAbs * s.den) (r.den * s.num.natAbs) := by
    rw [← rn_div _ _ hn s.den_nz, rn_self, rn_self]
  exact Sz.ofRn e.symm (hr.num.mul hs.den) (hr.den.mul hs.num) (by have := hr.pos; omega)

theorem Below.drew {B : Nat} {w w' : World} (h : Below B w w') : Below B w w'.drew := h.trans (below_drewN' B w' 1)
theorem Rt.len {w : World} {lo : Nat} {v : Rv} {r : Rat} {p : Nat} (h : Rt w lo v r) (hz : Sz r p) (hp : p ≤ 100000) : v.n ≤ 100000 ∧ v.m ≤ 100000 := by
  have := (h.rw hz).numLe
  have := (h.rw hz).denLe
  omega

def pick (v u t : Rv) : Nat → Rv
  | 0 => v
  | 1 => u
  | _ => t

/-- Three parameters' blocks, and the row that 'big' is handed. -/
theorem open3b (w : World) (v u t : Rv) (W : World)
    (h : (((w.alloc (.cells #[.bool v.s, .slice v.A v.n v.c, .slice v.B v.m v.d] 24)).alloc (.cells #[.bool u.s, .slice u.A u.n u.c, .slice u.B u.m u.d] 24)).alloc (.cells #[.bool t.s, .slice t.A t.n t.c, .slice t.B t.m t.d] 24)).alloc (.cells #[.bool v.s, .slice v.A v.n v.c, .slice v.B v.m v.d, .bool u.s, .slice u.A u.n u.c, .slice u.B u.m u.d, .bool t.s, .slice t.A t.n t.c, .slice t.B t.m t.d] 24) = W) :
    C3 W w.heap.size (.bool v.s) (.slice v.A v.n v.c) (.slice v.B v.m v.d) ∧ C3 W (w.heap.size + 1) (.bool u.s) (.slice u.A u.n u.c) (.slice u.B u.m u.d) ∧ C3 W (w.heap.size + 1 + 1) (.bool t.s) (.slice t.A t.n t.c) (.slice t.B t.m t.d) ∧ Below w.heap.size w W ∧ W.heap.size = w.heap.size + 4 ∧
      ∀ i, i < 3 → W.cell? ⟨w.heap.size + 1 + 1 + 1, i * 3 + 1, none⟩ = some (.slice (pick v u t i).A (pick v u t i).n (pick v u t i).c) ∧ W.cell? ⟨w.heap.size + 1 + 1 + 1, i * 3 + 2, none⟩ = some (.slice (pick v u t i).B (pick v u t i).m (pick v u t i).d) := by
  subst h
  have e1 : (w.alloc (.cells #[.bool v.s, .slice v.A v.n v.c, .slice v.B v.m v.d] 24)).heap.size = w.heap.size + 1 := by simp
  have e2 : ((w.alloc (.cells #[.bool v.s, .slice v.A v.n v.c, .slice v.B v.m v.d] 24)).alloc (.cells #[.bool u.s, .slice u.A u.n u.c, .slice u.B u.m u.d] 24)).heap.size = w.heap.size + 1 + 1 := by simp
  have e3 : (((w.alloc (.cells #[.bool v.s, .slice v.A v.n v.c, .slice v.B v.m v.d] 24)).alloc (.cells #[.bool u.s, .slice u.A u.n u.c, .slice u.B u.m u.d] 24)).alloc (.cells #[.bool t.s, .slice t.A t.n t.c, .slice t.B t.m t.d] 24)).heap.size = w.heap.size + 1 + 1 + 1 := by simp
  refine ⟨((C3.new w (.bool v.s) (.slice v.A v.n v.c) (.slice v.B v.m v.d)).alloc _).alloc _ |>.alloc _, ?_, ?_, ?_, by simp, fun i hi => ?_⟩
  · have := C3.new (w.alloc (.cells #[.bool v.s, .slice v.A v.n v.c, .slice v.B v.m v.d] 24)) (.bool u.s) (.slice u.A u.n u.c) (.slice u.B u.m u.d)
    rw [e1] at this; exact (this.alloc _).alloc _
  · have := C3.new ((w.alloc (.cells #[.bool v.s, .slice v.A v.n v.c, .slice v.B v.m v.d] 24)).alloc (.cells #[.bool u.s, .slice u.A u.n u.c, .slice u.B u.m u.d] 24)) (.bool t.s) (.slice t.A t.n t.c) (.slice t.B t.m t.d)
    rw [e2] at this; exact this.alloc _
  · exact ((((Below.refl w.heap.size w).alloc (Nat.le_refl _) _).alloc (by simp) _).alloc (by simp; omega) _).alloc (by simp; omega) _
  · rw [← e3]
    have : i = 0 ∨ i = 1 ∨ i = 2 := by omega
    rcases this with rfl | rfl | rfl <;> exact ⟨by rw [World.cell?_alloc_at _ _ _ _ rfl]; rfl, by rw [World.cell?_alloc_at _ _ _ _ rfl]; rfl⟩
theorem open2b (w : World) (v u : Rv) (W : World)
    (h : ((w.alloc (.cells #[.bool v.s, .slice v.A v.n v.c, .slice v.B v.m v.d] 24)).alloc (.cells #[.bool u.s, .slice u.A u.n u.c, .slice u.B u.m u.d] 24)).alloc (.cells #[.bool v.s, .slice v.A v.n v.c, .slice v.B v.m v.d, .bool u.s, .slice u.A u.n u.c, .slice u.B u.m u.d] 24) = W) :
    C3 W w.heap.size (.bool v.s) (.slice v.A v.n v.c) (.slice v.B v.m v.d) ∧ C3 W (w.heap.size + 1) (.bool u.s) (.slice u.A u.n u.c) (.slice u.B u.m u.d) ∧ Below w.heap.size w W ∧ W.heap.size = w.heap.size + 3 ∧
      ∀ i, i < 2 → W.cell? ⟨w.heap.size + 1 + 1, i * 3 + 1, none⟩ = some (.slice (pick v u u i).A (pick v u u i).n (pick v u u i).c) ∧ W.cell? ⟨w.heap.size + 1 + 1, i * 3 + 2, none⟩ = some (.slice (pick v u u i).B (pick v u u i).m (pick v u u i).d) := by
  subst h
  have e1 : (w.alloc (.cells #[.bool v.s, .slice v.A v.n v.c, .slice v.B v.m v.d] 24)).heap.size = w.heap.size + 1 := by simp
  have e2 : ((w.alloc (.cells #[.bool v.s, .slice v.A v.n v.c, .slice v.B v.m v.d] 24)).alloc (.cells #[.bool u.s, .slice u.A u.n u.c, .slice u.B u.m u.d] 24)).heap.size = w.heap.size + 1 + 1 := by simp
  refine ⟨((C3.new w (.bool v.s) (.slice v.A v.n v.c) (.slice v.B v.m v.d)).alloc _).alloc _, ?_, ?_, by simp, fun i hi => ?_⟩
  · have := C3.new (w.alloc (.cells #[.bool v.s, .slice v.A v.n v.c, .slice v.B v.m v.d] 24)) (.bool u.s) (.slice u.A u.n u.c) (.slice u.B u.m u.d)
    rw [e1] at this; exact this.alloc _
  · exact (((Below.refl w.heap.size w).alloc (Nat.le_refl _) _).alloc (by simp) _).alloc (by simp; omega) _
  · rw [← e2]
    have : i = 0 ∨ i = 1 := by omega
    rcases this with rfl | rfl <;> exact ⟨by rw [World.cell?_alloc_at _ _ _ _ rfl]; rfl, by rw [World.cell?_alloc_at _ _ _ _ rfl]; rfl⟩
theorem open1b (w : World) (v : Rv) (W : World)
    (h : (w.alloc (.cells #[.bool v.s, .slice v.A v.n v.c, .slice v.B v.m v.d] 24)).alloc (.cells #[.bool v.s, .slice v.A v.n v.c, .slice v.B v.m v.d] 24) = W) :
    C3 W w.heap.size (.bool v.s) (.slice v.A v.n v.c) (.slice v.B v.m v.d) ∧ Below w.heap.size w W ∧ W.heap.size = w.heap.size + 2 ∧
      ∀ i, i < 1 → W.cell? ⟨w.heap.size + 1, i * 3 + 1, none⟩ = some (.slice (pick v v v i).A (pick v v v i).n (pick v v v i).c) ∧ W.cell? ⟨w.heap.size + 1, i * 3 + 2, none⟩ = some (.slice (pick v v v i).B (pick v v v i).m (pick v v v i).d) := by
  subst h
  have e1 : (w.alloc (.cells #[.bool v.s, .slice v.A v.n v.c, .slice v.B v.m v.d] 24)).heap.size = w.heap.size + 1 := by simp
  refine ⟨(C3.new w (.bool v.s) (.slice v.A v.n v.c) (.slice v.B v.m v.d)).alloc _, ?_, by simp, fun i hi => ?_⟩
  · exact ((Below.refl w.heap.size w).alloc (Nat.le_refl _) _).alloc (by simp) _
  · rw [← e1]
    have : i = 0 := by omega
    subst this
    exact ⟨by rw [World.cell?_alloc_at _ _ _ _ rfl]; rfl, by rw [World.cell?_alloc_at _ _ _ _ rfl]; rfl⟩

theorem Cmp_v (v u : Rv) (r s : Rat) (k : Int) (w : World) (hv : Rw w v r 2000) (hu : Rw w u s 2000) (hk : sgn (r - s) = k) :
    Calls Try.prog 38 #[.agg #[.bool v.s, .slice v.A v.n v.c, .slice v.B v.m v.d], .agg #[.bool u.s, .slice u.A u.n u.c, .slice u.B u.m u.d]] w fun e w' => e = .returned (.int .i64 k) ∧ Below w.heap.size w w' := by
  subst hk; exact Cmp_c v u r s w hv hu
theorem Same_v (v u : Rv) (r s : Rat) (b : Bool) (w : World) (hv : Rw w v r 2000) (hu : Rw w u s 2000) (hk : decide (r = s) = b) :
    Calls Try.prog 11 #[.agg #[.bool v.s, .slice v.A v.n v.c, .slice v.B v.m v.d], .agg #[.bool u.s, .slice u.A u.n u.c, .slice u.B u.m u.d]] w fun e w' => e = .returned (.bool b) ∧ Below w.heap.size w w' := by
  subst hk; exact Same_c v u r s w hv hu
end Go.Proofs.Ytplpkojikgeamaa
