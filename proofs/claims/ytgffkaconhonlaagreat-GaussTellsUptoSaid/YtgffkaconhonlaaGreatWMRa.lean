/-
  Rationals, no program: what a sign and two naturals are worth; sums, products, quotients, floors of these.
  The program's rationals, first part: whether a row is 0, one, nought, a quotient, a number of its parts.
  The program's rationals, second part: a number of its parts, normal.
  The program's rationals, third part: a number's parts, normal; whole numbers; whether it is 0, is too large; its other sign.
  The program's rationals, fourth part: sums, products, quotients, comparisons, floors.
  The program's rationals, fifth part: sums, differences, the other sign, comparisons.
-/
import Derived.Test.YtgffkaconhonlaaGreatWMNb
import Derived.Test.YtgffkaconhonlaaGreatWMNd
import Derived.Test.YtgffkaconhonlaaGreatWMNg
import Derived.Outline
import Derived.Sort.AtCall
import Derived.Deep.RegionHeld3
namespace Go.Proofs.YtgffkaconhonlaaGreat
set_option maxRecDepth 20000
def rn (s : Bool) (x y : Nat) : Rat := mkRat (if s then -(x : Int) else (x : Int)) y
theorem rn_zero {s : Bool} {x y : Nat} (h : x = 0 ∨ y = 0) : rn s x y = 0 := by
 unfold rn
 rcases h with rfl | rfl
 · cases s <;> simp
 · simp
theorem rn_absI (s : Bool) (x : Nat) : (if s then -(x : Int) else (x : Int)).natAbs = x := by cases s <;> simp
theorem rn_abs {s : Bool} {x y : Nat} (hy : y ≠ 0) : (rn s x y).num.natAbs = x / Nat.gcd x y := by
 unfold rn
 rw [Rat.num_mkRat, if_neg hy, rn_absI, Int.natAbs_ediv_of_dvd, rn_absI, Nat.gcd_comm]
 · rfl
 · rw [Int.ofNat_dvd_left, rn_absI]; exact Nat.gcd_dvd_right _ _
theorem rn_den {s : Bool} {x y : Nat} (hy : y ≠ 0) : (rn s x y).den = y / Nat.gcd x y := by
 unfold rn
 rw [Rat.den_mkRat, if_neg hy, rn_absI, Nat.gcd_comm]
theorem rn_neg (s : Bool) (x y : Nat) : -rn s x y = rn (!s) x y := by
 unfold rn; rw [Rat.neg_mkRat]; cases s <;> simp
theorem mkRat_nonneg {x y : Nat} : 0 ≤ (mkRat (x : Int) y).num := by
 rw [Rat.num_mkRat]
 split
 · exact Int.le_refl _
 · exact Int.ediv_nonneg (by omega) (by omega)
theorem rn_pos (x y : Nat) : 0 ≤ (rn false x y).num := mkRat_nonneg
theorem rn_ne {s : Bool} {x y : Nat} (hx : x ≠ 0) (hy : y ≠ 0) : rn s x y ≠ 0 := by
 unfold rn
 rw [Rat.mkRat_ne_zero hy]; cases s <;> simp <;> omega
theorem num_ne {r : Rat} (h : r ≠ 0) : r.num ≠ 0 := fun e => h (Rat.num_eq_zero.1 e)
theorem rn_sign {s : Bool} {x y : Nat} (hx : x ≠ 0) (hy : y ≠ 0) : decide ((rn s x y).num < 0) = s := by
 cases s
 ·
  have := rn_pos x y
  rw [decide_eq_false_iff_not]; omega
 ·
  have e : rn true x y = -rn false x y := by rw [rn_neg]; rfl
  have h1 := rn_pos x y
  have h2 := num_ne (rn_ne (s := false) hx hy)
  rw [e, decide_eq_true_iff, Rat.neg_num]; omega
theorem rn_self (r : Rat) : rn (decide (r.num < 0)) r.num.natAbs r.den = r := by
 unfold rn
 have : (if decide (r.num < 0) = true then -((r.num.natAbs : Nat) : Int) else (r.num.natAbs : Int)) = r.num := by
  split
  · rename_i h; rw [decide_eq_true_iff] at h; omega
  · rename_i h; rw [decide_eq_true_iff] at h; omega
 rw [this, Rat.mkRat_self]
theorem rn_mul (s t : Bool) (x y u v : Nat) : rn s x y * rn t u v = rn (s != t) (x * u) (y * v) := by
 unfold rn
 rw [Rat.mkRat_mul_mkRat]
 cases s <;> cases t <;> simp [Int.neg_mul, Int.mul_neg]
theorem rn_add (s : Bool) {x y u v : Nat} (hy : y ≠ 0) (hv : v ≠ 0) : rn s x y + rn s u v = rn s (x * v + u * y) (y * v) := by
 unfold rn
 rw [Rat.mkRat_add_mkRat _ _ hy hv]
 cases s <;> simp [Int.neg_mul, Int.neg_add]
theorem rn_sub {s t : Bool} {x y u v : Nat} (hst : t = !s) (hy : y ≠ 0) (hv : v ≠ 0) (h : u * y ≤ x * v) : rn s x y + rn t u v = rn s (x * v - u * y) (y * v) := by
 subst hst
 unfold rn
 rw [Rat.mkRat_add_mkRat _ _ hy hv]
 have e : ((x * v - u * y : Nat) : Int) = (x : Int) * v - (u : Int) * y := by rw [Int.ofNat_sub h]; simp
 rw [e]
 cases s <;> simp [Int.neg_mul] <;> congr 1 <;> omega
theorem rn_sub' {s t : Bool} {x y u v : Nat} (hst : t = !s) (hy : y ≠ 0) (hv : v ≠ 0) (h : x * v ≤ u * y) : rn s x y + rn t u v = rn t (u * y - x * v) (y * v) := by
 rw [Rat.add_comm, rn_sub (by subst hst; simp) hv hy h, Nat.mul_comm v y]
theorem rn_inv (t : Bool) {u v : Nat} (hu : u ≠ 0) (hv : v ≠ 0) : (rn t u v)⁻¹ = rn t v u := by
 apply Rat.inv_eq_of_mul_eq_one
 rw [rn_mul]
 have : (t != t) = false := by cases t <;> rfl
 rw [this]
 unfold rn
 have e : (v * u) = u * v := Nat.mul_comm _ _
 have h1 : (u * v : Nat) ≠ 0 := Nat.mul_ne_zero hu hv
 have : (1 : Rat) = mkRat 1 1 := rfl
 rw [this, Rat.mkRat_eq_iff (by rw [e]; exact h1) (by omega)]
 simp [Int.mul_comm]
theorem rn_div (s t : Bool) {x y u v : Nat} (hu : u ≠ 0) (hv : v ≠ 0) : rn s x y / rn t u v = rn (s != t) (x * v) (y * u) := by
 rw [Rat.div_def, rn_inv t hu hv, rn_mul]
theorem rn_int (s : Bool) (x : Nat) : rn s x 1 = (((if s then -(x : Int) else (x : Int)) : Int) : Rat) := by
 unfold rn
 exact Rat.mkRat_self (((if s then -(x : Int) else (x : Int)) : Int) : Rat)
theorem rn_abs_le {s : Bool} {x y : Nat} : (rn s x y).num.natAbs ≤ x := by
 by_cases hy : y = 0
 · rw [rn_zero (.inr hy)]; simp
 · rw [rn_abs hy]; exact Nat.div_le_self _ _
theorem rn_den_le {s : Bool} {x y : Nat} : (rn s x y).den ≤ max y 1 := by
 by_cases hy : y = 0
 · rw [rn_zero (.inr hy)]; simp; omega
 · rw [rn_den hy]; have := Nat.div_le_self y (Nat.gcd x y); omega
theorem Bd.num {r : Rat} {s : Bool} {x y p : Nat} (h : rn s x y = r) (hx : Bd x p) : Bd r.num.natAbs p := by
 subst h; exact hx.le rn_abs_le
theorem Bd.den {r : Rat} {s : Bool} {x y p : Nat} (h : rn s x y = r) (hy : Bd y p) (hp : 0 < p) : Bd r.den p := by
 subst h
 have h1 : Bd 1 p := Nat.lt_of_lt_of_le (by omega) (Nat.pow_le_pow_right (show 0 < 4294967296 by omega) hp)
 unfold Bd at *
 have := rn_den_le (s := s) (x := x) (y := y)
 omega
end Go.Proofs.YtgffkaconhonlaaGreat
namespace Go.Proofs.YtgffkaconhonlaaGreat
set_option maxRecDepth 20000
open Go.RowKit
structure Rv where
 s : Bool
 A : Option Addr
 n : Nat
 c : Nat
 B : Option Addr
 m : Nat
 d : Nat
structure Rt (w : World) (lo : Nat) (v : Rv) (r : Rat) : Prop where
 sign : v.s = decide (r.num < 0)
 numLen : v.n = (lim r.num.natAbs).length
 numCap : v.n ≤ v.c
 num : Row w lo v.A v.n (lim r.num.natAbs)
 denLen : v.m = (lim r.den).length
 denCap : v.m ≤ v.d
 den : Row w lo v.B v.m (lim r.den)
structure Rw (w : World) (v : Rv) (r : Rat) (p : Nat) : Prop where
 numCap : v.n ≤ v.c
 denCap : v.m ≤ v.d
 numLe : v.n ≤ p
 denLe : v.m ≤ p
 rows : ∃ (a b : List Nat), Row w 0 v.A v.n a ∧ Row w 0 v.B v.m b ∧ rn v.s (val a) (val b) = r
theorem Rt.below {w w' : World} {lo : Nat} {v : Rv} {r : Rat} (h : Rt w lo v r) (hb : Below w.heap.size w w') : Rt w' lo v r :=
 ⟨h.1, h.2, h.3, h.4.below hb, h.5, h.6, h.7.below hb⟩
theorem Rt.lower {w : World} {lo lo' : Nat} {v : Rv} {r : Rat} (h : Rt w lo v r) (hl : lo' ≤ lo) : Rt w lo' v r :=
 ⟨h.1, h.2, h.3, h.4.lower hl, h.5, h.6, h.7.lower hl⟩
theorem Rw.below {w w' : World} {v : Rv} {r : Rat} {p : Nat} (h : Rw w v r p) (hb : Below w.heap.size w w') : Rw w' v r p := by
 obtain ⟨h1, h2, h3, h4, a, b, ha, hb', hr⟩ := h
 exact ⟨h1, h2, h3, h4, a, b, ha.below hb, hb'.below hb, hr⟩
theorem Rw.alloc {w : World} {v : Rv} {r : Rat} {p : Nat} (h : Rw w v r p) (o : Obj) : Rw (w.alloc o) v r p := h.below ((Below.refl _ _).alloc (Nat.le_refl _) o)
theorem Rw.more {w : World} {v : Rv} {r : Rat} {p q : Nat} (h : Rw w v r p) (hq : p ≤ q) : Rw w v r q := by
 obtain ⟨h1, h2, h3, h4, rest⟩ := h
 exact ⟨h1, h2, by omega, by omega, rest⟩
structure Sz (r : Rat) (p : Nat) : Prop where
 num : Bd r.num.natAbs p
 den : Bd r.den p
theorem Rt.rw {w : World} {lo : Nat} {v : Rv} {r : Rat} {p : Nat} (h : Rt w lo v r) (hz : Sz r p) : Rw w v r p := by
 refine ⟨h.3, h.6, by rw [h.2]; exact hz.num.len, by rw [h.5]; exact hz.den.len, _, _, h.4.lower (Nat.zero_le _), h.7.lower (Nat.zero_le _), ?_⟩
 rw [val_lim, val_lim, h.1]; exact rn_self r
theorem Rw.sz {w : World} {v : Rv} {r : Rat} {p : Nat} (h : Rw w v r p) (hp : 0 < p) : Sz r p := by
 obtain ⟨h1, h2, h3, h4, a, b, ha, hb', hr⟩ := h
 exact ⟨Bd.num hr (ha.bd h3), Bd.den hr (hb'.bd h4) hp⟩
theorem nbits_zero {x : Nat} (h : x = 0) : nbits x = 0 := by subst h; unfold nbits; rw [lim_zero]; rfl
theorem nbits_pos {x : Nat} (h : x ≠ 0) : 0 < nbits x := by
 unfold nbits
 have hl : (lim x).length ≠ 0 := by rw [lim_pos h]; simp
 rw [if_neg hl]
 have ht := lim_tr x
 unfold Tr at ht
 have h1 : dg (lim x) ((lim x).length - 1) ≠ 0 := by
  rcases ht with h | h
  · exact absurd h hl
  · exact h
 have h2 : ∀ y : Nat, y ≠ 0 → 0 < Lib.bitLen y := by
  intro y hy
  unfold Lib.bitLen
  show 0 < (if y = 0 then 0 else 1 + Lib.bitLenAux 63 (y / 2))
  rw [if_neg hy]; omega
 have := h2 _ h1
 omega
def C3 (w : World) (b : Nat) (x y z : Value) : Prop := w.heap[b]? = some (.cells #[x, y, z] 26 (0, 0))
theorem C3.lt {w : World} {b : Nat} {x y z : Value} (h : C3 w b x y z) : b < w.heap.size := by
 rcases Nat.lt_or_ge b w.heap.size with h1 | h1
 · exact h1
 ·
  have : w.heap[b]? = none := Array.getElem?_eq_none h1
  rw [C3, this] at h; cases h
theorem C3.below {w w' : World} {b : Nat} {x y z : Value} (h : C3 w b x y z) (hb : Below w.heap.size w w') : C3 w' b x y z := (hb.block b h.lt).trans h
theorem C3.at {w w' : World} {B b : Nat} {x y z : Value} (h : C3 w b x y z) (hb : Below B w w') (hB : b < B) : C3 w' b x y z := (hb.block b hB).trans h
theorem C3.new (w : World) (x y z : Value) : C3 (w.alloc (.cells #[x, y, z] 26)) w.heap.size x y z := heap_alloc_new w _
theorem C3.alloc {w : World} {b : Nat} {x y z : Value} (h : C3 w b x y z) (o : Obj) : C3 (w.alloc o) b x y z := h.below ((Below.refl _ _).alloc (Nat.le_refl _) o)
theorem C3.facts {w : World} {b : Nat} {x y z : Value} (h : C3 w b x y z) :
  w.cell? ⟨b, 0, none⟩ = some x ∧ w.cell? ⟨b, 1, none⟩ = some y ∧ w.cell? ⟨b, 2, none⟩ = some z ∧ w.frozen? ⟨b, 0, none⟩ = false ∧ w.frozen? ⟨b, 1, none⟩ = false ∧ w.frozen? ⟨b, 2, none⟩ = false := by
 have h' : w.heap[b]? = some (.cells #[x, y, z] 26 (0, 0)) := h
 refine ⟨?_, ?_, ?_, ?_, ?_, ?_⟩ <;> simp [World.cell?, World.frozen?, h']
abbrev put3 (w : World) (b : Nat) (x y z : Value) : World := ((w.setCell ⟨b, 0, none⟩ x).setCell ⟨b, 1, none⟩ y).setCell ⟨b, 2, none⟩ z
theorem C3.set0 {w : World} {b : Nat} {p q r : Value} (h : C3 w b p q r) (x : Value) : C3 (w.setCell ⟨b, 0, none⟩ x) b x q r := by
 have h' : w.heap[b]? = some (.cells #[p, q, r] 26 (0, 0)) := h
 show (w.heap.modify b _)[b]? = _
 rw [Array.getElem?_modify, if_pos rfl, h']; rfl
theorem C3.set1 {w : World} {b : Nat} {p q r : Value} (h : C3 w b p q r) (x : Value) : C3 (w.setCell ⟨b, 1, none⟩ x) b p x r := by
 have h' : w.heap[b]? = some (.cells #[p, q, r] 26 (0, 0)) := h
 show (w.heap.modify b _)[b]? = _
 rw [Array.getElem?_modify, if_pos rfl, h']; rfl
theorem C3.set2 {w : World} {b : Nat} {p q r : Value} (h : C3 w b p q r) (x : Value) : C3 (w.setCell ⟨b, 2, none⟩ x) b p q x := by
 have h' : w.heap[b]? = some (.cells #[p, q, r] 26 (0, 0)) := h
 show (w.heap.modify b _)[b]? = _
 rw [Array.getElem?_modify, if_pos rfl, h']; rfl
theorem C3.put {w : World} {b : Nat} {p q r : Value} (h : C3 w b p q r) (x y z : Value) : C3 (put3 w b x y z) b x y z := ((h.set0 x).set1 y).set2 z
theorem put3_below {w : World} {b B : Nat} (hB : B ≤ b) (x y z : Value) : Below B w (put3 w b x y z) := by
 have h1 : ∀ (w : World) (j : Nat) (x : Value), Below B w (w.setCell ⟨b, j, none⟩ x) := fun w j x => (Below.refl B w).setCell (by simpa using hB) x
 exact ((h1 _ _ _).trans (h1 _ _ _)).trans (h1 _ _ _)
theorem C3.setOther {w : World} {b b' : Nat} {x' y' z' : Value} (h : C3 w b' x' y' z') (hne : b' ≠ b) (j : Nat) (x : Value) : C3 (w.setCell ⟨b, j, none⟩ x) b' x' y' z' := by
 have h' : w.heap[b']? = some (.cells #[x', y', z'] 26 (0, 0)) := h
 show (w.heap.modify b _)[b']? = _
 rw [Array.getElem?_modify, if_neg (Ne.symm hne), h']
theorem C3.putOther {w : World} {b b' : Nat} {x' y' z' : Value} (h : C3 w b' x' y' z') (hne : b' ≠ b) (x y z : Value) : C3 (put3 w b x y z) b' x' y' z' :=
 ((h.setOther hne _ _).setOther hne _ _).setOther hne _ _
theorem Row.put {w : World} {lo n b : Nat} {A : Option Addr} {l : List Nat} (h : Row w lo A n l) (hb : b < lo) (x y z : Value) : Row (put3 w b x y z) lo A n l := by
 have h1 : ∀ (w : World) (j : Nat) (x : Value), Row w lo A n l → Row (w.setCell ⟨b, j, none⟩ x) lo A n l := by
  intro w j x h
  refine ⟨h.len, h.l32, fun hn => ?_⟩
  obtain ⟨b', off, e, h1, h2, hc⟩ := h.mem hn
  refine ⟨b', off, e, h1, by simpa using h2, fun j' hj => ?_⟩
  rw [World.cell?_setCell_other w _ _ x (by intro e; injection e; omega)]
  exact hc j' hj
 exact h1 _ _ _ (h1 _ _ _ (h1 _ _ _ h))
theorem Rt.put {w : World} {lo b : Nat} {v : Rv} {r : Rat} (h : Rt w lo v r) (hb : b < lo) (x y z : Value) : Rt (put3 w b x y z) lo v r :=
 ⟨h.1, h.2, h.3, h.4.put hb x y z, h.5, h.6, h.7.put hb x y z⟩
theorem Row.apart {w : World} {lo n b : Nat} {A : Option Addr} {l : List Nat} (h : Row w lo A n l) {v : Rv} (k : C3 w b (.bool v.s) (.slice v.A v.n v.c) (.slice v.B v.m v.d)) (hn : 0 < n) : ∃ b' off, A = some ⟨b', off, none⟩ ∧ b' ≠ b := by
 obtain ⟨b', off, e, h1, h2, hc⟩ := h.mem hn
 refine ⟨b', off, e, fun hbb => ?_⟩
 subst hbb
 have h' : w.heap[b']? = some (.cells #[.bool v.s, .slice v.A v.n v.c, .slice v.B v.m v.d] 26 (0, 0)) := k
 have h0 := hc 0 hn
 rw [Nat.add_zero] at h0
 rcases Nat.lt_or_ge off 3 with h3 | h3
 ·
  have : off = 0 ∨ off = 1 ∨ off = 2 := by omega
  rcases this with rfl | rfl | rfl <;> simp [World.cell?, h'] at h0
 ·
  have hn : (#[Value.bool v.s, .slice v.A v.n v.c, .slice v.B v.m v.d] : Array Value)[off]? = none := Array.getElem?_eq_none (by simpa using h3)
  simp [World.cell?, h', hn] at h0
theorem Row.putC {w : World} {lo n b : Nat} {A : Option Addr} {l : List Nat} (h : Row w lo A n l) {v : Rv} (k : C3 w b (.bool v.s) (.slice v.A v.n v.c) (.slice v.B v.m v.d)) (x y z : Value) : Row (put3 w b x y z) lo A n l := by
 by_cases hn : 0 < n
 ·
  obtain ⟨b', off, e, hne⟩ := h.apart k hn
  have hs : ∀ ad, A = some ad → ad.block ≠ b := by intro ad ea; rw [e] at ea; injection ea with ea; subst ea; exact hne
  exact ((h.set _ hs).set _ hs).set _ hs
 ·
  have h0 : n = 0 := by omega
  subst h0
  exact ⟨h.len, h.l32, fun h => absurd h (by omega)⟩
theorem Rw.putC {w : World} {b p : Nat} {r : Rat} {u : Rv} (h : Rw w u r p) {v : Rv} (k : C3 w b (.bool v.s) (.slice v.A v.n v.c) (.slice v.B v.m v.d)) (x y z : Value) : Rw (put3 w b x y z) u r p := by
 obtain ⟨h1, h2, h3, h4, a, b', ha, hb', hr⟩ := h
 exact ⟨h1, h2, h3, h4, a, b', ha.putC k x y z, hb'.putC k x y z, hr⟩
theorem Rt.putC {w : World} {lo b : Nat} {r : Rat} {u : Rv} (h : Rt w lo u r) {v : Rv} (k : C3 w b (.bool v.s) (.slice v.A v.n v.c) (.slice v.B v.m v.d)) (x y z : Value) : Rt (put3 w b x y z) lo u r :=
 ⟨h.1, h.2, h.3, h.4.putC k x y z, h.5, h.6, h.7.putC k x y z⟩
theorem ret3c {fn : Func} {t : Tmp} {R : Ending → World → Prop} {a : Act} {w : World} {b : Nat} {x y z : Value} (hres : fn.results = #[.cell t 26]) (ht : a.tmps.getD t undef = .pointer (some ⟨b, 0, none⟩)) (hd : a.defers = [])
  (hk : C3 w b x y z) (hR : R (.returned (.agg #[x, y, z])) w) : bodyPost Tryz.prog fn R .ret a w := by
 obtain ⟨q0, q1, q2, g0, g1, g2⟩ := hk.facts
 have ht' : (a.tmps[t]?.getD undef) = .pointer (some ⟨b, 0, none⟩) := by simpa using ht
 refine bodyPost_ret (v := .agg #[x, y, z]) ?_ hd hR
 simp [results, hres, go_sem, ht', q0, q1, q2]
theorem ret3 {fn : Func} {t : Tmp} {R : Ending → World → Prop} {a : Act} {w : World} {b : Nat} {p q r x y z : Value} (hres : fn.results = #[.cell t 26]) (ht : a.tmps.getD t undef = .pointer (some ⟨b, 0, none⟩)) (hd : a.defers = [])
  (hk : C3 w b p q r) (hR : R (.returned (.agg #[x, y, z])) (put3 w b x y z)) : bodyPost Tryz.prog fn R .ret a (put3 w b x y z) := ret3c hres ht hd (hk.put x y z) hR
set_option maxHeartbeats 400000 in
theorem isNought_yes (A : Option Addr) (n c : Nat) (a : List Nat) (w : World) (hn : n ≤ 1500000000000) (hcn : n ≤ c) (ha : Row w 0 A n a) (h : val a = 0) :
  Calls Tryz.prog 85 #[.slice A n c] w fun e w' => e = .returned (.bool true) ∧ w = w' := by
 have hz := nbits_zero h
 go_enter Tryz.func85, Tryz.ntmps85
 go_wp2_with fail
 refine (Bits_any A n c a _ hn hcn ha).mono ?_
 rintro e w' ⟨rfl, rfl⟩
 rw [hz]
 go_wp2
 go_ret
 exact ⟨rfl, rfl⟩
set_option maxHeartbeats 400000 in
theorem isNought_no (A : Option Addr) (n c : Nat) (a : List Nat) (w : World) (hn : n ≤ 1500000000000) (hcn : n ≤ c) (ha : Row w 0 A n a) (h : val a ≠ 0) :
  Calls Tryz.prog 85 #[.slice A n c] w fun e w' => e = .returned (.bool false) ∧ w = w' := by
 have hz := nbits_pos h
 go_enter Tryz.func85, Tryz.ntmps85
 go_wp2_with fail
 refine (Bits_any A n c a _ hn hcn ha).mono ?_
 rintro e w' ⟨rfl, rfl⟩
 have hb : ((nbits (val a) : Nat) : Int) ≠ 0 := by omega
 have hb2 : (((nbits (val a) : Nat) : Int) == 0) = false := by rw [beq_eq_false_iff_ne]; exact hb
 go_wp2
 go_ret
 exact ⟨rfl, rfl⟩
set_option maxHeartbeats 400000 in
theorem one_any (w : World) :
  Calls Tryz.prog 78 #[] w fun e w' => ∃ A c, e = .returned (.slice A (lim 1).length c) ∧ Own w' w.heap.size A c (lim 1).length (lim 1) ∧ Below w.heap.size w w' := by
 go_enter Tryz.func78, Tryz.ntmps78
 go_wp2_with fail
 refine (Of_any 1 _ (by omega)).mono ?_
 rintro e w' ⟨A, c, rfl, ho, hb⟩
 go_wp2
 go_ret
 exact ⟨A, c, rfl, ho, hb⟩
theorem Rt.nought {w : World} {lo : Nat} {A : Option Addr} {c : Nat} (ho : Row w lo A (lim 1).length (lim 1)) (hc : (lim 1).length ≤ c) : Rt w lo ⟨false, none, 0, 0, A, (lim 1).length, c⟩ 0 :=
 ⟨rfl, by rw [show (0 : Rat).num.natAbs = 0 from rfl, lim_zero]; rfl, Nat.le_refl _, by rw [show (0 : Rat).num.natAbs = 0 from rfl, lim_zero]; exact Row.nil_ _ _ _, rfl, hc, ho⟩
set_option maxHeartbeats 400000 in
theorem nought_any (w : World) :
  Calls Tryz.prog 79 #[] w fun e w' => ∃ v : Rv, e = .returned (.agg #[.bool v.s, .slice v.A v.n v.c, .slice v.B v.m v.d]) ∧ Rt w' w.heap.size v 0 ∧ Below w.heap.size w w' := by
 go_enter Tryz.func79, Tryz.ntmps79
 go_wp2_with fail
 refine (one_any _).mono ?_
 rintro e w' ⟨A, c, rfl, ho, hb⟩
 have hb0 := (((Below.refl w.heap.size w).alloc (Nat.le_refl _) _).trans (hb.mono (by simp)))
 have hr := ho.row
 have hcc := ho.capLe
 have k := (C3.new w (.bool false) (.slice none 0 0) (.slice none 0 0)).at hb (by simp)
 clear ho hb
 obtain ⟨q0, q1, q2, g0, g1, g2⟩ := k.facts
 go_wp2
 refine ret3 (fn := Tryz.f79) Tryz.results79 rfl rfl k ?_
 exact ⟨⟨_, _, _, _, _, _, _⟩, rfl, (Rt.nought (hr.put (by simp) _ _ _) hcc).lower (by simp), hb0.trans (put3_below (Nat.le_refl _) _ _ _)⟩
end Go.Proofs.YtgffkaconhonlaaGreat
namespace Go.Proofs.YtgffkaconhonlaaGreat
set_option maxRecDepth 20000
open Go.RowKit
set_option maxHeartbeats 400000 in
theorem quotient_any (A B : Option Addr) (n m c d x y : Nat) (a b : List Nat) (w : World) (hn : n ≤ 600000000000) (hm : m ≤ 600000000000) (hcn : n ≤ c) (hdm : m ≤ d) (ha : Row w 0 A n a) (hb : Row w 0 B m b) (hx : val a = x) (hy : val b = y) (h0 : 0 < y) :
  Calls Tryz.prog 104 #[.slice A n c, .slice B m d] w fun e w' => ∃ X cx, e = .returned (.slice X (lim (x / y)).length cx) ∧ Own w' w.heap.size X cx (lim (x / y)).length (lim (x / y)) ∧ Below w.heap.size w w' := by
 go_enter Tryz.func104, Tryz.ntmps104
 go_wp2_with fail
 refine (DivMod_pos A B n m c d x y a b _ hn hm hcn hdm ha hb hx hy h0).mono ?_
 rintro e w' ⟨X, cx, Y, cy, rfl, ho, _, hbl⟩
 go_wp2
 go_ret
 exact ⟨X, cx, rfl, ho, hbl⟩
set_option maxHeartbeats 800000 in
theorem Of_zero1 (s : Bool) (A B : Option Addr) (n m c d : Nat) (a : List Nat) (w : World) (hn : n ≤ 135000000000) (hcn : n ≤ c) (ha : Row w 0 A n a) (h : val a = 0) :
  Calls Tryz.prog 76 #[.bool s, .slice A n c, .slice B m d] w fun e w' => ∃ v : Rv, e = .returned (.agg #[.bool v.s, .slice v.A v.n v.c, .slice v.B v.m v.d]) ∧ Rt w' w.heap.size v 0 ∧ Below w.heap.size w w' := by
 go_enter Tryz.func76, Tryz.ntmps76
 go_wp2_with fail
 refine (isNought_yes A n c a _ (by omega) hcn (ha.alloc _) h).mono ?_
 rintro e w' ⟨rfl, rfl⟩
 go_wp2_with fail
 refine (nought_any _).mono ?_
 rintro e w1 ⟨v, rfl, hr, hb⟩
 have k := (C3.new w (.bool false) (.slice none 0 0) (.slice none 0 0)).at hb (by simp)
 have hb0 := (((Below.refl w.heap.size w).alloc (Nat.le_refl _) _).trans (hb.mono (by simp)))
 clear hb ha
 obtain ⟨q0, q1, q2, g0, g1, g2⟩ := k.facts
 go_wp2
 refine ret3 (fn := Tryz.f76) Tryz.results76 rfl rfl k ?_
 exact ⟨v, rfl, (hr.put (by simp) _ _ _).lower (by simp), hb0.trans (put3_below (Nat.le_refl _) _ _ _)⟩
set_option maxHeartbeats 800000 in
theorem Of_zero2 (s : Bool) (A B : Option Addr) (n m c d : Nat) (a b : List Nat) (w : World) (hn : n ≤ 135000000000) (hm : m ≤ 135000000000) (hcn : n ≤ c) (hdm : m ≤ d) (ha : Row w 0 A n a) (hb : Row w 0 B m b) (h : val a ≠ 0) (h' : val b = 0) :
  Calls Tryz.prog 76 #[.bool s, .slice A n c, .slice B m d] w fun e w' => ∃ v : Rv, e = .returned (.agg #[.bool v.s, .slice v.A v.n v.c, .slice v.B v.m v.d]) ∧ Rt w' w.heap.size v 0 ∧ Below w.heap.size w w' := by
 go_enter Tryz.func76, Tryz.ntmps76
 go_wp2_with fail
 refine (isNought_no A n c a _ (by omega) hcn (ha.alloc _) h).mono ?_
 rintro e w' ⟨rfl, rfl⟩
 go_wp2_with fail
 refine (isNought_yes B m d b _ (by omega) hdm (hb.alloc _) h').mono ?_
 rintro e w' ⟨rfl, rfl⟩
 go_wp2_with fail
 refine (nought_any _).mono ?_
 rintro e w1 ⟨v, rfl, hr, hb⟩
 have k := (C3.new w (.bool false) (.slice none 0 0) (.slice none 0 0)).at hb (by simp)
 have hb0 := (((Below.refl w.heap.size w).alloc (Nat.le_refl _) _).trans (hb.mono (by simp)))
 clear hb ha
 obtain ⟨q0, q1, q2, g0, g1, g2⟩ := k.facts
 go_wp2
 refine ret3 (fn := Tryz.f76) Tryz.results76 rfl rfl k ?_
 exact ⟨v, rfl, (hr.put (by simp) _ _ _).lower (by simp), hb0.trans (put3_below (Nat.le_refl _) _ _ _)⟩
theorem Rt.parts {w : World} {lo : Nat} {s : Bool} {x y : Nat} {v : Rv} (hx : x ≠ 0) (hy : y ≠ 0) (hs : v.s = s) (hn : v.n = (lim (x / Nat.gcd x y)).length) (hm : v.m = (lim (y / Nat.gcd x y)).length) (hc : v.n ≤ v.c) (hd : v.m ≤ v.d)
  (h1 : Row w lo v.A v.n (lim (x / Nat.gcd x y))) (h2 : Row w lo v.B v.m (lim (y / Nat.gcd x y))) : Rt w lo v (rn s x y) := by
 refine ⟨by rw [rn_sign hx hy]; exact hs, ?_, hc, ?_, ?_, hd, ?_⟩
 · rw [rn_abs hy]; exact hn
 · rw [rn_abs hy]; exact h1
 · rw [rn_den hy]; exact hm
 · rw [rn_den hy]; exact h2
set_option maxHeartbeats 1600000 in
theorem Of_pos (s : Bool) (A B : Option Addr) (n m c d : Nat) (a b : List Nat) (w : World) (hn : n ≤ 135000000000) (hm : m ≤ 135000000000) (hcn : n ≤ c) (hdm : m ≤ d) (ha : Row w 0 A n a) (hb : Row w 0 B m b) (h : val a ≠ 0) (h' : val b ≠ 0) :
  Calls Tryz.prog 76 #[.bool s, .slice A n c, .slice B m d] w fun e w' => ∃ v : Rv, e = .returned (.agg #[.bool v.s, .slice v.A v.n v.c, .slice v.B v.m v.d]) ∧ Rt w' w.heap.size v (rn s (val a) (val b)) ∧ Below w.heap.size w w' := by
 have hg : 0 < Nat.gcd (val a) (val b) := Nat.gcd_pos_of_pos_left _ (Nat.pos_of_ne_zero h)
 have hgl : (lim (Nat.gcd (val a) (val b))).length ≤ 135000000000 := ((ha.bd hn).le (Nat.gcd_le_left _ (Nat.pos_of_ne_zero h))).len
 go_enter Tryz.func76, Tryz.ntmps76
 go_wp2_with fail
 refine (isNought_no A n c a _ (by omega) hcn (ha.alloc _) h).mono ?_
 rintro e w' ⟨rfl, rfl⟩
 go_wp2_with fail
 refine (isNought_no B m d b _ (by omega) hdm (hb.alloc _) h').mono ?_
 rintro e w' ⟨rfl, rfl⟩
 go_wp2_with fail
 refine (Gcd_any A B n m c d (val a) (val b) a b _ (by omega) (by omega) hcn hdm (ha.alloc _) (hb.alloc _) rfl rfl).mono ?_
 rintro e w1 ⟨X, cx, rfl, hcx, hrx, hb1⟩
 have k := (C3.new w (.bool false) (.slice none 0 0) (.slice none 0 0)).at hb1 (by simp)
 have HB := (((Below.refl w.heap.size w).alloc (Nat.le_refl _) _).trans (hb1.mono (by simp)))
 clear hb1
 go_wp2_with fail
 refine (quotient_any A X n _ c cx (val a) _ a _ _ (by omega) (by omega) hcn hcx (ha.below HB) hrx rfl (val_lim _) hg).mono ?_
 rintro e w2 ⟨Y, cy, rfl, hoy, hb2⟩
 have hlt1 := k.lt
 replace k := k.below hb2
 replace HB := HB.trans (hb2.mono HB.size)
 have hs1 := hb2.size
 have hrx2 := hrx.below hb2
 have hry := hoy.row
 have hcy := hoy.capLe
 clear hrx hoy hb2
 go_wp2_with fail
 refine (quotient_any B X m _ d cx (val b) _ b _ _ (by omega) (by omega) hdm hcx (hb.below HB) hrx2 rfl (val_lim _) hg).mono ?_
 rintro e w3 ⟨Z, cz, rfl, hoz, hb3⟩
 replace k := k.below hb3
 replace hry := hry.below hb3
 have hrz := hoz.row
 have hcz := hoz.capLe
 have hs2 := hb3.size
 replace HB := HB.trans (hb3.mono HB.size)
 clear hoz hb3 hrx2
 obtain ⟨q0, q1, q2, g0, g1, g2⟩ := k.facts
 go_wp2
 refine ret3 (fn := Tryz.f76) Tryz.results76 rfl rfl k ?_
 refine ⟨⟨_, _, _, _, _, _, _⟩, rfl, ?_, HB.trans (put3_below (Nat.le_refl _) _ _ _)⟩
 refine Rt.lower (lo := w.heap.size + 1) ?_ (by omega)
 exact Rt.parts h h' rfl rfl rfl hcy hcz ((hry.lower (by omega)).put (by omega) _ _ _) ((hrz.lower (by omega)).put (by omega) _ _ _)
end Go.Proofs.YtgffkaconhonlaaGreat
namespace Go.Proofs.YtgffkaconhonlaaGreat
set_option maxRecDepth 20000
open Go.RowKit
theorem Of_rows (s : Bool) (A B : Option Addr) (n m c d : Nat) (a b : List Nat) (r : Rat) (w : World) (hn : n ≤ 135000000000) (hm : m ≤ 135000000000) (hcn : n ≤ c) (hdm : m ≤ d) (ha : Row w 0 A n a) (hb : Row w 0 B m b) (hr : rn s (val a) (val b) = r) :
  Calls Tryz.prog 76 #[.bool s, .slice A n c, .slice B m d] w fun e w' => ∃ v : Rv, e = .returned (.agg #[.bool v.s, .slice v.A v.n v.c, .slice v.B v.m v.d]) ∧ Rt w' w.heap.size v r ∧ Below w.heap.size w w' := by
 subst hr
 by_cases h : val a = 0
 · rw [rn_zero (.inl h)]; exact Of_zero1 s A B n m c d a w hn hcn ha h
 ·
  by_cases h' : val b = 0
  · rw [rn_zero (.inr h')]; exact Of_zero2 s A B n m c d a b w hn hm hcn hdm ha hb h h'
  · exact Of_pos s A B n m c d a b w hn hm hcn hdm ha hb h h'
theorem Of_nums (s : Bool) (A B : Option Addr) (n m c d x y : Nat) (a b : List Nat) (r : Rat) (w : World) (hx : val a = x) (hy : val b = y) (hn : n ≤ 135000000000) (hm : m ≤ 135000000000) (hcn : n ≤ c) (hdm : m ≤ d) (ha : Row w 0 A n a) (hb : Row w 0 B m b) (hr : rn s x y = r) :
  Calls Tryz.prog 76 #[.bool s, .slice A n c, .slice B m d] w fun e w' => ∃ v : Rv, e = .returned (.agg #[.bool v.s, .slice v.A v.n v.c, .slice v.B v.m v.d]) ∧ Rt w' w.heap.size v r ∧ Below w.heap.size w w' := by
 subst hx hy; exact Of_rows s A B n m c d a b r w hn hm hcn hdm ha hb hr
set_option maxHeartbeats 400000 in
theorem Norm_any (v : Rv) (r : Rat) (w : World) (hv : Rw w v r 75000000000) :
  Calls Tryz.prog 81 #[.agg #[.bool v.s, .slice v.A v.n v.c, .slice v.B v.m v.d]] w fun e w' => ∃ v : Rv, e = .returned (.agg #[.bool v.s, .slice v.A v.n v.c, .slice v.B v.m v.d]) ∧ Rt w' w.heap.size v r ∧ Below w.heap.size w w' := by
 obtain ⟨h1, h2, h3, h4, a, b, ha, hb, hr⟩ := hv
 go_enter Tryz.func81, Tryz.ntmps81
 go_wp2_with fail
 refine (Of_rows v.s v.A v.B v.n v.m v.c v.d a b r _ (by omega) (by omega) h1 h2 ((ha.alloc _).alloc _) ((hb.alloc _).alloc _) hr).mono ?_
 rintro e w1 ⟨u, rfl, hu, hbl⟩
 have k := ((C3.new (w.alloc (.cells #[.bool v.s, .slice v.A v.n v.c, .slice v.B v.m v.d] 26)) (.bool false) (.slice none 0 0) (.slice none 0 0))).at hbl (by simp)
 have HB := ((((Below.refl w.heap.size w).alloc (Nat.le_refl _) _).alloc (by simp) _).trans (hbl.mono (by simp; omega)))
 have e1 : (w.alloc (.cells #[.bool v.s, .slice v.A v.n v.c, .slice v.B v.m v.d] 26)).heap.size = w.heap.size + 1 := by simp
 rw [e1] at k
 obtain ⟨q0, q1, q2, g0, g1, g2⟩ := k.facts
 clear hbl ha hb
 go_wp2
 refine ret3 (fn := Tryz.f81) Tryz.results81 rfl rfl k ?_
 exact ⟨_, rfl, (hu.put (by simp) _ _ _).lower (by simp; omega), HB.trans (put3_below (by omega) _ _ _)⟩
set_option maxHeartbeats 400000 in
theorem Zero_any (v : Rv) (r : Rat) (w : World) (hv : Rw w v r 75000000000) :
  Calls Tryz.prog 47 #[.agg #[.bool v.s, .slice v.A v.n v.c, .slice v.B v.m v.d]] w fun e w' => e = .returned (.bool (decide (r = 0))) ∧ Below w.heap.size w w' := by
 obtain ⟨h1, h2, h3, h4, a, b, ha, hb, hr⟩ := hv
 subst hr
 have HB := ((Below.refl w.heap.size w).alloc (Nat.le_refl _) (.cells #[.bool v.s, .slice v.A v.n v.c, .slice v.B v.m v.d] 26))
 by_cases h : val a = 0
 ·
  rw [decide_eq_true (rn_zero (.inl h))]
  go_enter Tryz.func47, Tryz.ntmps47
  go_wp2_with fail
  refine (isNought_yes v.A v.n v.c a _ (by omega) h1 (ha.below HB) h).mono ?_
  rintro e w' ⟨rfl, rfl⟩
  go_wp2
  go_ret
  exact ⟨rfl, HB⟩
 ·
  by_cases h' : val b = 0
  ·
   rw [decide_eq_true (rn_zero (.inr h'))]
   go_enter Tryz.func47, Tryz.ntmps47
   go_wp2_with fail
   refine (isNought_no v.A v.n v.c a _ (by omega) h1 (ha.below HB) h).mono ?_
   rintro e w' ⟨rfl, rfl⟩
   go_wp2_with fail
   refine (isNought_yes v.B v.m v.d b _ (by omega) h2 (hb.below HB) h').mono ?_
   rintro e w' ⟨rfl, rfl⟩
   go_wp2
   go_ret
   exact ⟨rfl, HB⟩
  ·
   rw [decide_eq_false (rn_ne h h')]
   go_enter Tryz.func47, Tryz.ntmps47
   go_wp2_with fail
   refine (isNought_no v.A v.n v.c a _ (by omega) h1 (ha.below HB) h).mono ?_
   rintro e w' ⟨rfl, rfl⟩
   go_wp2_with fail
   refine (isNought_no v.B v.m v.d b _ (by omega) h2 (hb.below HB) h').mono ?_
   rintro e w' ⟨rfl, rfl⟩
   go_wp2
   go_ret
   exact ⟨rfl, HB⟩
set_option maxHeartbeats 400000 in
theorem turned_any (v : Rv) (r : Rat) (p : Nat) (w : World) (hv : Rw w v r p) :
  Calls Tryz.prog 82 #[.agg #[.bool v.s, .slice v.A v.n v.c, .slice v.B v.m v.d]] w fun e w' => ∃ v : Rv, e = .returned (.agg #[.bool v.s, .slice v.A v.n v.c, .slice v.B v.m v.d]) ∧ Rw w' v (-r) p ∧ Below w.heap.size w w' := by
 have HB := ((Below.refl w.heap.size w).alloc (Nat.le_refl _) (.cells #[.bool v.s, .slice v.A v.n v.c, .slice v.B v.m v.d] 26))
 go_enter Tryz.func82, Tryz.ntmps82
 go_wp2
 have k := C3.new (w.alloc (.cells #[.bool !v.s, .slice v.A v.n v.c, .slice v.B v.m v.d] 26)) (.bool !v.s) (.slice v.A v.n v.c) (.slice v.B v.m v.d)
 have e1 : (w.alloc (.cells #[.bool !v.s, .slice v.A v.n v.c, .slice v.B v.m v.d] 26)).heap.size = w.heap.size + 1 := by simp
 rw [e1] at k
 have HB := (((Below.refl w.heap.size w).alloc (Nat.le_refl _) (.cells #[.bool !v.s, .slice v.A v.n v.c, .slice v.B v.m v.d] 26))).alloc (by simp) (.cells #[.bool !v.s, .slice v.A v.n v.c, .slice v.B v.m v.d] 26)
 refine ret3c (fn := Tryz.f82) Tryz.results82 rfl rfl k ?_
 obtain ⟨h1, h2, h3, h4, a, b, ha, hb, hr⟩ := hv
 exact ⟨⟨!v.s, v.A, v.n, v.c, v.B, v.m, v.d⟩, rfl, ⟨h1, h2, h3, h4, a, b, ha.below HB, hb.below HB, by rw [← rn_neg, hr]⟩, HB⟩
structure Rd (w : World) (v : Rv) (r : Rat) (p : Nat) : Prop where
 numCap : v.n ≤ v.c
 denCap : v.m ≤ v.d
 numLe : v.n ≤ p
 denLe : v.m ≤ p
 rows : ∃ (a b : List Nat), Row w 0 v.A v.n a ∧ Row w 0 v.B v.m b ∧ rn v.s (val a) (val b) = r ∧ val b ≠ 0
theorem Rd.below {w w' : World} {v : Rv} {r : Rat} {p : Nat} (h : Rd w v r p) (hb : Below w.heap.size w w') : Rd w' v r p := by
 obtain ⟨h1, h2, h3, h4, a, b, ha, hb', hr⟩ := h
 exact ⟨h1, h2, h3, h4, a, b, ha.below hb, hb'.below hb, hr⟩
theorem Rt.rd {w : World} {lo : Nat} {v : Rv} {r : Rat} {p : Nat} (h : Rt w lo v r) (hz : Sz r p) : Rd w v r p := by
 refine ⟨h.3, h.6, by rw [h.2]; exact hz.num.len, by rw [h.5]; exact hz.den.len, _, _, h.4.lower (Nat.zero_le _), h.7.lower (Nat.zero_le _), ?_, ?_⟩
 · rw [val_lim, val_lim, h.1]; exact rn_self r
 · rw [val_lim]; exact r.den_nz
theorem Sz.zero {p : Nat} (hp : 0 < p) : Sz 0 p := by
 have h1 : 4294967296 ^ 1 ≤ 4294967296 ^ p := Nat.pow_le_pow_right (by omega) hp
 exact ⟨show 0 < 4294967296 ^ p by omega, show 1 < 4294967296 ^ p by omega⟩
set_option maxHeartbeats 400000 in
theorem withDenominator_any (v : Rv) (r : Rat) (p : Nat) (w : World) (hv : Rw w v r p) (hp : p ≤ 75000000000) (hp0 : 0 < p) :
  Calls Tryz.prog 125 #[.agg #[.bool v.s, .slice v.A v.n v.c, .slice v.B v.m v.d]] w fun e w' => ∃ v : Rv, e = .returned (.agg #[.bool v.s, .slice v.A v.n v.c, .slice v.B v.m v.d]) ∧ Rd w' v r p ∧ Below w.heap.size w w' := by
 obtain ⟨h1, h2, h3, h4, a, b, ha, hb, hr⟩ := hv
 have HA := ((Below.refl w.heap.size w).alloc (Nat.le_refl _) (.cells #[.bool v.s, .slice v.A v.n v.c, .slice v.B v.m v.d] 26)).alloc (by simp) (.cells #[.bool false, .slice none 0 0, .slice none 0 0] 26)
 have e1 : (w.alloc (.cells #[.bool v.s, .slice v.A v.n v.c, .slice v.B v.m v.d] 26)).heap.size = w.heap.size + 1 := by simp
 by_cases h : val b = 0
 ·
  have hr0 : r = 0 := by rw [← hr]; exact rn_zero (.inr h)
  go_enter Tryz.func125, Tryz.ntmps125
  go_wp2_with fail
  refine (isNought_yes v.B v.m v.d b _ (by omega) h2 (hb.below HA) h).mono ?_
  rintro e w' ⟨rfl, rfl⟩
  go_wp2_with fail
  refine (nought_any _).mono ?_
  rintro e w1 ⟨u, rfl, hu, hbl⟩
  have k := ((C3.new (w.alloc (.cells #[.bool v.s, .slice v.A v.n v.c, .slice v.B v.m v.d] 26)) (.bool false) (.slice none 0 0) (.slice none 0 0))).at hbl (by simp)
  rw [e1] at k
  have HB := HA.trans (hbl.mono (by simp; omega))
  obtain ⟨q0, q1, q2, g0, g1, g2⟩ := k.facts
  clear hbl ha hb
  go_wp2
  refine ret3 (fn := Tryz.f125) Tryz.results125 rfl rfl k ?_
  refine ⟨u, rfl, ?_, HB.trans (put3_below (by omega) _ _ _)⟩
  rw [hr0]
  exact (hu.put (by simp) _ _ _).rd (Sz.zero hp0)
 ·
  go_enter Tryz.func125, Tryz.ntmps125
  go_wp2_with fail
  refine (isNought_no v.B v.m v.d b _ (by omega) h2 (hb.below HA) h).mono ?_
  rintro e w' ⟨rfl, rfl⟩
  go_wp2
  have k := C3.new (w.alloc (.cells #[.bool v.s, .slice v.A v.n v.c, .slice v.B v.m v.d] 26)) (.bool v.s) (.slice v.A v.n v.c) (.slice v.B v.m v.d)
  rw [e1] at k
  refine ret3c (fn := Tryz.f125) Tryz.results125 rfl rfl k ?_
  have HB := ((Below.refl w.heap.size w).alloc (Nat.le_refl _) (.cells #[.bool v.s, .slice v.A v.n v.c, .slice v.B v.m v.d] 26)).alloc (by simp) (.cells #[.bool v.s, .slice v.A v.n v.c, .slice v.B v.m v.d] 26)
  exact ⟨v, rfl, ⟨h1, h2, h3, h4, a, b, ha.below HB, hb.below HB, hr, h⟩, HB⟩
theorem rn_int_eq (i : Int) (s : Bool) (x : Nat) (h : (if s then -(x : Int) else (x : Int)) = i) : rn s x 1 = (i : Rat) := by rw [rn_int, h]
set_option maxHeartbeats 400000 in
theorem Int_any (i : Int) (w : World) (hi : -9223372036854775808 ≤ i ∧ i ≤ 9223372036854775807) :
  Calls Tryz.prog 41 #[.int .i64 i] w fun e w' => ∃ v : Rv, e = .returned (.agg #[.bool v.s, .slice v.A v.n v.c, .slice v.B v.m v.d]) ∧ Rt w' w.heap.size v (i : Rat) ∧ Below w.heap.size w w' := by
 by_cases h : i < 0
 ·
  obtain ⟨x, hx⟩ : ∃ x : Nat, i = -(x : Int) := ⟨i.natAbs, by omega⟩
  have hw : IntKind.u64.wrap (-IntKind.u64.wrap (-(x : Int))) = (x : Int) := by
   have e64 : ∀ n : Int, IntKind.u64.wrap n = n % 18446744073709551616 := fun _ => rfl
   rw [e64, e64]; omega
  go_enter Tryz.func41, Tryz.ntmps41
  go_wp2_with fail
  refine (Of_any x _ (by omega)).mono ?_
  rintro e w1 ⟨A, c, rfl, ho, hb1⟩
  have hr1 := ho.row.lower (Nat.zero_le _)
  have hc1 := ho.capLe
  have k := (C3.new w (.bool false) (.slice none 0 0) (.slice none 0 0)).at hb1 (by simp)
  have hk1 := k.lt
  have HB := (((Below.refl w.heap.size w).alloc (Nat.le_refl _) _).trans (hb1.mono (by simp)))
  have hl1 : (lim x).length ≤ 2 := lim_len_lt (by omega)
  clear ho hb1
  go_wp2_with fail
  refine (one_any _).mono ?_
  rintro e w2 ⟨B, d, rfl, ho, hb2⟩
  replace hr1 := hr1.below hb2
  have hr2 := ho.row.lower (Nat.zero_le _)
  have hc2 := ho.capLe
  replace k := k.below hb2
  have hk2 := k.lt
  replace HB := HB.trans (hb2.mono HB.size)
  have hl2 : (lim 1).length ≤ 2 := lim_len_lt (by omega)
  clear ho hb2
  go_wp2_with fail
  refine (Of_nums true A B _ _ c d x 1 _ _ (i : Rat) _ (val_lim _) (val_lim _) (by omega) (by omega) hc1 hc2 hr1 hr2 (rn_int_eq _ _ _ (by simp [hx]))).mono ?_
  rintro e w3 ⟨u, rfl, hu, hb3⟩
  replace k := k.below hb3
  replace HB := HB.trans (hb3.mono HB.size)
  obtain ⟨q0, q1, q2, g0, g1, g2⟩ := k.facts
  clear hb3 hr1 hr2
  go_wp2
  refine ret3 (fn := Tryz.f41) Tryz.results41 rfl rfl k ?_
  exact ⟨u, rfl, (hu.put (by omega) _ _ _).lower (by omega), HB.trans (put3_below (Nat.le_refl _) _ _ _)⟩
 ·
  obtain ⟨x, hx⟩ : ∃ x : Nat, i = (x : Int) := ⟨i.natAbs, by omega⟩
  go_enter Tryz.func41, Tryz.ntmps41
  go_wp2_with fail
  refine (Of_any x _ (by omega)).mono ?_
  rintro e w1 ⟨A, c, rfl, ho, hb1⟩
  have hr1 := ho.row.lower (Nat.zero_le _)
  have hc1 := ho.capLe
  have k := (C3.new w (.bool false) (.slice none 0 0) (.slice none 0 0)).at hb1 (by simp)
  have hk1 := k.lt
  have HB := (((Below.refl w.heap.size w).alloc (Nat.le_refl _) _).trans (hb1.mono (by simp)))
  have hl1 : (lim x).length ≤ 2 := lim_len_lt (by omega)
  clear ho hb1
  go_wp2_with fail
  refine (one_any _).mono ?_
  rintro e w2 ⟨B, d, rfl, ho, hb2⟩
  replace hr1 := hr1.below hb2
  have hr2 := ho.row.lower (Nat.zero_le _)
  have hc2 := ho.capLe
  replace k := k.below hb2
  have hk2 := k.lt
  replace HB := HB.trans (hb2.mono HB.size)
  have hl2 : (lim 1).length ≤ 2 := lim_len_lt (by omega)
  clear ho hb2
  go_wp2_with fail
  refine (Of_nums false A B _ _ c d x 1 _ _ (i : Rat) _ (val_lim _) (val_lim _) (by omega) (by omega) hc1 hc2 hr1 hr2 (rn_int_eq _ _ _ (by simp [hx]))).mono ?_
  rintro e w3 ⟨u, rfl, hu, hb3⟩
  replace k := k.below hb3
  replace HB := HB.trans (hb3.mono HB.size)
  obtain ⟨q0, q1, q2, g0, g1, g2⟩ := k.facts
  clear hb3 hr1 hr2
  go_wp2
  refine ret3 (fn := Tryz.f41) Tryz.results41 rfl rfl k ?_
  exact ⟨u, rfl, (hu.put (by omega) _ _ _).lower (by omega), HB.trans (put3_below (Nat.le_refl _) _ _ _)⟩
end Go.Proofs.YtgffkaconhonlaaGreat
namespace Go.Proofs.YtgffkaconhonlaaGreat
set_option maxRecDepth 20000
open Go.RowKit
set_option maxHeartbeats 400000 in
theorem addSigned_same (s : Bool) (A B : Option Addr) (n m c d : Nat) (a b : List Nat) (w : World) (hn : n ≤ 300000000000) (hm : m ≤ 300000000000) (hcn : n ≤ c) (hdm : m ≤ d) (ha : Row w 0 A n a) (hb : Row w 0 B m b) :
  Calls Tryz.prog 126 #[.bool s, .slice A n c, .bool s, .slice B m d] w fun e w' => ∃ X cx, e = .returned (.tuple #[.bool s, .slice X (lim (val a + val b)).length cx]) ∧ Own w' w.heap.size X cx (lim (val a + val b)).length (lim (val a + val b)) ∧ Below w.heap.size w w' := by
 go_enter Tryz.func126, Tryz.ntmps126
 go_wp2_with fail
 refine (Add_any A B n m c d a b _ (by omega) (by omega) hcn hdm ha hb).mono ?_
 rintro e w1 ⟨X, cx, rfl, ho, hb1⟩
 go_wp2
 go_ret2
 exact ⟨X, cx, rfl, ho, hb1⟩
set_option maxHeartbeats 400000 in
theorem addSigned_less (s t : Bool) (A B : Option Addr) (n m c d : Nat) (a b : List Nat) (w : World) (hst : t = !s) (hn : n ≤ 300000000000) (hm : m ≤ 300000000000) (hcn : n ≤ c) (hdm : m ≤ d) (ha : Row w 0 A n a) (hb : Row w 0 B m b) (hle : val b ≤ val a) :
  Calls Tryz.prog 126 #[.bool s, .slice A n c, .bool t, .slice B m d] w fun e w' => ∃ X cx, e = .returned (.tuple #[.bool s, .slice X (lim (val a - val b)).length cx]) ∧ Own w' w.heap.size X cx (lim (val a - val b)).length (lim (val a - val b)) ∧ Below w.heap.size w w' := by
 subst hst
 have hs : (s == !s) = false := by cases s <;> rfl
 go_enter Tryz.func126, Tryz.ntmps126
 go_wp2_with fail
 refine (Sub_yes A B n m c d a b _ (by omega) (by omega) hcn hdm ha hb hle).mono ?_
 rintro e w1 ⟨X, cx, rfl, ho, hb1⟩
 go_wp2
 go_ret2
 exact ⟨X, cx, rfl, ho, hb1⟩
set_option maxHeartbeats 400000 in
theorem addSigned_more (s t : Bool) (A B : Option Addr) (n m c d : Nat) (a b : List Nat) (w : World) (hst : t = !s) (hn : n ≤ 300000000000) (hm : m ≤ 300000000000) (hcn : n ≤ c) (hdm : m ≤ d) (ha : Row w 0 A n a) (hb : Row w 0 B m b) (hlt : val a < val b) :
  Calls Tryz.prog 126 #[.bool s, .slice A n c, .bool t, .slice B m d] w fun e w' => ∃ X cx, e = .returned (.tuple #[.bool t, .slice X (lim (val b - val a)).length cx]) ∧ Own w' w.heap.size X cx (lim (val b - val a)).length (lim (val b - val a)) ∧ Below w.heap.size w w' := by
 subst hst
 have hs : (s == !s) = false := by cases s <;> rfl
 go_enter Tryz.func126, Tryz.ntmps126
 go_wp2_with fail
 refine (Sub_no A B n m c d a b _ (by omega) (by omega) hcn hdm ha hb hlt).mono ?_
 rintro e w1 ⟨rfl, hb1⟩
 go_wp2_with fail
 refine (Sub_yes B A m n d c b a _ (by omega) (by omega) hdm hcn (hb.below hb1) (ha.below hb1) (by omega)).mono ?_
 rintro e w2 ⟨X, cx, rfl, ho, hb2⟩
 go_wp2
 go_ret2
 exact ⟨X, cx, rfl, ho.lower hb1.size, hb1.trans (hb2.mono hb1.size)⟩
theorem addSigned_any (s t : Bool) (A B : Option Addr) (n m c d x y u v : Nat) (a b : List Nat) (w : World) (hn : n ≤ 300000000000) (hm : m ≤ 300000000000) (hcn : n ≤ c) (hdm : m ≤ d) (ha : Row w 0 A n a) (hb : Row w 0 B m b)
  (hx : val a = x * v) (hu : val b = u * y) (hy : y ≠ 0) (hv : v ≠ 0) :
  Calls Tryz.prog 126 #[.bool s, .slice A n c, .bool t, .slice B m d] w fun e w' => ∃ q z X cx, e = .returned (.tuple #[.bool q, .slice X (lim z).length cx]) ∧ Own w' w.heap.size X cx (lim z).length (lim z) ∧ rn s x y + rn t u v = rn q z (y * v) ∧ z ≤ val a + val b ∧ Below w.heap.size w w' := by
 by_cases hst : t = s
 ·
  subst hst
  refine (addSigned_same t A B n m c d a b w hn hm hcn hdm ha hb).mono ?_
  rintro e w1 ⟨X, cx, rfl, ho, hb1⟩
  exact ⟨_, _, X, cx, rfl, ho, by rw [rn_add t hy hv, hx, hu], Nat.le_refl _, hb1⟩
 ·
  have hst' : t = !s := by cases s <;> cases t <;> simp at hst ⊢
  by_cases hle : val b ≤ val a
  ·
   refine (addSigned_less s t A B n m c d a b w hst' hn hm hcn hdm ha hb hle).mono ?_
   rintro e w1 ⟨X, cx, rfl, ho, hb1⟩
   exact ⟨_, _, X, cx, rfl, ho, by rw [rn_sub hst' hy hv (by omega), hx, hu], by omega, hb1⟩
  ·
   refine (addSigned_more s t A B n m c d a b w hst' hn hm hcn hdm ha hb (by omega)).mono ?_
   rintro e w1 ⟨X, cx, rfl, ho, hb1⟩
   exact ⟨_, _, X, cx, rfl, ho, by rw [rn_sub' hst' hy hv (by omega), hx, hu], by omega, hb1⟩
theorem Rd.putC {w : World} {b p : Nat} {r : Rat} {u : Rv} (h : Rd w u r p) {v : Rv} (k : C3 w b (.bool v.s) (.slice v.A v.n v.c) (.slice v.B v.m v.d)) (x y z : Value) : Rd (put3 w b x y z) u r p := by
 obtain ⟨h1, h2, h3, h4, a, b', ha, hb', hr⟩ := h
 exact ⟨h1, h2, h3, h4, a, b', ha.putC k x y z, hb'.putC k x y z, hr⟩
theorem C3.drew {w : World} {b : Nat} {x y z : Value} (h : C3 w b x y z) : C3 w.drew b x y z := h
theorem Rw.drew {w : World} {v : Rv} {r : Rat} {p : Nat} (h : Rw w v r p) : Rw w.drew v r p := h.below ⟨rfl, rfl, rfl, Nat.le_refl _, fun _ _ => rfl⟩
set_option maxHeartbeats 1600000 in
theorem crosswise_any (v u : Rv) (r s : Rat) (w : World) (hv : Rw w v r 60000000000) (hu : Rw w u s 60000000000) :
  Calls Tryz.prog 109 #[.agg #[.bool v.s, .slice v.A v.n v.c, .slice v.B v.m v.d], .agg #[.bool u.s, .slice u.A u.n u.c, .slice u.B u.m u.d]] w fun e w' => ∃ q x y X cx Y cy, e = .returned (.tuple #[.bool q, .slice X (lim x).length cx, .slice Y (lim y).length cy]) ∧ (lim x).length ≤ cx ∧ (lim y).length ≤ cy ∧ (lim x).length ≤ 120000000001 ∧ (lim y).length ≤ 120000000000 ∧ y ≠ 0 ∧ Row w' w.heap.size X (lim x).length (lim x) ∧ Row w' w.heap.size Y (lim y).length (lim y) ∧ rn q x y = r + s ∧ Below w.heap.size w w' := by
 have ka := (C3.new w (.bool v.s) (.slice v.A v.n v.c) (.slice v.B v.m v.d)).alloc (.cells #[.bool u.s, .slice u.A u.n u.c, .slice u.B u.m u.d] 26)
 have kb := C3.new (w.alloc (.cells #[.bool v.s, .slice v.A v.n v.c, .slice v.B v.m v.d] 26)) (.bool u.s) (.slice u.A u.n u.c) (.slice u.B u.m u.d)
 have HW := ((Below.refl w.heap.size w).alloc (Nat.le_refl _) (.cells #[.bool v.s, .slice v.A v.n v.c, .slice v.B v.m v.d] 26)).alloc (by simp) (.cells #[.bool u.s, .slice u.A u.n u.c, .slice u.B u.m u.d] 26)
 have e1 : (w.alloc (.cells #[.bool v.s, .slice v.A v.n v.c, .slice v.B v.m v.d] 26)).heap.size = w.heap.size + 1 := by simp
 rw [e1] at kb
 go_enter Tryz.func109, Tryz.ntmps109
 go_wp2_with fail
 generalize (w.alloc (.cells #[.bool v.s, .slice v.A v.n v.c, .slice v.B v.m v.d] 26)).alloc (.cells #[.bool u.s, .slice u.A u.n u.c, .slice u.B u.m u.d] 26) = W at *
 replace hv := hv.below HW
 replace hu := hu.below HW
 have hlt := kb.lt
 clear e1
 go_cut [] from 7 to 10 (fun wx => ∃ v1 u1 : Rv, Hid (C3 wx w.heap.size (.bool v1.s) (.slice v1.A v1.n v1.c) (.slice v1.B v1.m v1.d) ∧ C3 wx (w.heap.size + 1) (.bool u1.s) (.slice u1.A u1.n u1.c) (.slice u1.B u1.m u1.d) ∧ Rd wx v1 r 60000000000 ∧ Rd wx u1 s 60000000000 ∧ Below w.heap.size w wx))
 case first =>
  obtain ⟨a0, a1, a2, a3, a4, a5⟩ := ka.facts
  obtain ⟨b0, b1, b2, b3, b4, b5⟩ := kb.facts
  go_region_with (first
   | (
     go_at_call_of 125 v
     refine (withDenominator_any v r 60000000000 _ hv.drew (by omega) (by omega)).mono ?_
     rintro e w1 ⟨v1, rfl, hv1, hb1⟩
     obtain ⟨a0, a1, a2, a3, a4, a5⟩ := (ka.drew.below hb1).facts
     obtain ⟨b0, b1, b2, b3, b4, b5⟩ := (kb.drew.below hb1).facts)
   | (
     go_at_call_of 125 u
     refine (withDenominator_any u s 60000000000 _ (hu.drew.below hb1) (by omega) (by omega)).mono ?_
     rintro e w2 ⟨u1, rfl, hu1, hb2⟩
     obtain ⟨a0, a1, a2, a3, a4, a5⟩ := ((ka.drew.below hb1).below hb2).facts
     obtain ⟨b0, b1, b2, b3, b4, b5⟩ := ((kb.drew.below hb1).below hb2).facts))
  all_goals (
   go_wp2_with fail
   go_meet
   have hbb := HW.trans ((below_drewN' w.heap.size W 1).trans ((hb1.mono (by show _ ≤ W.heap.size; omega)).trans (hb2.mono (by have := hb1.size; have h3 : W.drew.heap.size = W.heap.size := rfl; omega))))
   have ka2 := (ka.drew.below hb1).below hb2
   have kb2 := (kb.drew.below hb1).below hb2
   have hv2 := hv1.below hb2
   have kb3 := kb2.putOther (b := w.heap.size) (by omega) (.bool v1.s) (.slice v1.A v1.n v1.c) (.slice v1.B v1.m v1.d)
   have ka3 := (ka2.put (.bool v1.s) (.slice v1.A v1.n v1.c) (.slice v1.B v1.m v1.d)).putOther (b := w.heap.size + 1) (by omega) (.bool u1.s) (.slice u1.A u1.n u1.c) (.slice u1.B u1.m u1.d)
   exact ⟨v1, u1, ka3, kb3.put _ _ _, (hv2.putC ka2 _ _ _).putC kb3 _ _ _, (hu1.putC ka2 _ _ _).putC kb3 _ _ _, hbb.trans ((put3_below (Nat.le_refl _) _ _ _).trans (put3_below (by omega) _ _ _))⟩)
 case rest =>
  obtain ⟨v1, u1, HC⟩ := hcut
  obtain ⟨ka1, kb1, hv1, hu1, HB⟩ := HC.out
  clear HC ka kb hv hu HW hlt
  obtain ⟨a0, a1, a2, a3, a4, a5⟩ := ka1.facts
  obtain ⟨b0, b1, b2, b3, b4, b5⟩ := kb1.facts
  obtain ⟨h1, h2, h3, h4, a, b, ha, hb, hr, hy⟩ := hv1
  obtain ⟨g1, g2, g3, g4, c, d, hc, hd, hs, hz⟩ := hu1
  go_wp2_with fail
  go_region_held3 (fun w' => w'.cell? ⟨w.heap.size, 0, none⟩ = some (.bool v1.s) ∧ w'.cell? ⟨w.heap.size, 1, none⟩ = some (.slice v1.A v1.n v1.c) ∧ w'.cell? ⟨w.heap.size, 2, none⟩ = some (.slice v1.B v1.m v1.d) ∧ w'.cell? ⟨w.heap.size + 1, 0, none⟩ = some (.bool u1.s) ∧ w'.cell? ⟨w.heap.size + 1, 1, none⟩ = some (.slice u1.A u1.n u1.c) ∧ w'.cell? ⟨w.heap.size + 1, 2, none⟩ = some (.slice u1.B u1.m u1.d)) (go_keep)
   (first
   | (
     go_at_call_of 80 v1.A
     refine (Mul_any v1.A u1.B v1.n u1.m v1.c u1.d a d _ (by omega) (by omega) h1 g2 ha.drew hd.drew).mono ?_
     rintro e w1 ⟨X1, cx1, rfl, ho1, hb1⟩
     obtain ⟨a0, a1, a2, a3, a4, a5⟩ := (ka1.drew.below hb1).facts
     obtain ⟨b0, b1, b2, b3, b4, b5⟩ := (kb1.drew.below hb1).facts)
   | (
     go_at_call_of 80 u1.A
     refine (Mul_any u1.A v1.B u1.n v1.m u1.c v1.d c b _ (by omega) (by omega) g1 h2 (hc.drew.below hb1) (hb.drew.below hb1)).mono ?_
     rintro e w2 ⟨X2, cx2, rfl, ho2, hb2⟩
     obtain ⟨a0, a1, a2, a3, a4, a5⟩ := ((ka1.drew.below hb1).below hb2).facts
     obtain ⟨b0, b1, b2, b3, b4, b5⟩ := ((kb1.drew.below hb1).below hb2).facts)
   | (
     go_at_call_of 126 X1
     refine (addSigned_any v1.s u1.s X1 X2 _ _ cx1 cx2 (val a) (val b) (val c) (val d) _ _ _ ?_ ?_ ho1.capLe ho2.capLe ((ho1.row.below hb2).lower (Nat.zero_le _)) (ho2.row.lower (Nat.zero_le _)) (val_lim _) (val_lim _) hy hz).mono ?_
     · exact Nat.le_trans ((ha.bd h3).mul (hd.bd g4)).len (by omega)
     · exact Nat.le_trans ((hc.bd g3).mul (hb.bd h4)).len (by omega)
     rintro e w3 ⟨q, z, X3, cx3, rfl, ho3, hsum, hz3, hb3⟩
     obtain ⟨a0, a1, a2, a3, a4, a5⟩ := (((ka1.drew.below hb1).below hb2).below hb3).facts
     obtain ⟨b0, b1, b2, b3, b4, b5⟩ := (((kb1.drew.below hb1).below hb2).below hb3).facts))
  rename_i hHeld
  have hszw : w.heap.size ≤ wc.heap.size := HB.size
  have hs1 : wc.heap.size ≤ w1.heap.size := hb1.size
  have hs2 := hb2.size
  have HB3 : Below w.heap.size w w3 := HB.trans ((below_drewN' w.heap.size wc 1).trans ((hb1.mono (by show _ ≤ wc.heap.size; omega)).trans ((hb2.mono (by omega)).trans (hb3.mono (by omega)))))
  replace hb := ((hb.drew.below hb1).below hb2).below hb3
  replace hd := ((hd.drew.below hb1).below hb2).below hb3
  have hrz := ho3.row
  have hcz := ho3.capLe
  have hzl : (lim z).length ≤ 120000000001 := by
   have h8 : Bd (val (lim (val a * val d)) + val (lim (val c * val b))) 120000000001 := by
    rw [val_lim, val_lim]
    exact (((ha.bd h3).mul (hd.bd g4)).add ((hc.bd g3).mul (hb.bd h4))).more (by omega)
   exact (h8.le hz3).len
  have hyl : (lim (val b * val d)).length ≤ 120000000000 := ((hb.bd h4).mul (hd.bd g4)).len
  have hne : val b * val d ≠ 0 := Nat.mul_ne_zero hy hz
  rw [hr, hs] at hsum
  clear ho3 ho1 ho2 hb1 hb2 hb3 ka1 kb1 hz3 ha hc hHeld HB hy hz hr hs
  go_wp2_with fail
  refine (Mul_any v1.B u1.B v1.m u1.m v1.d u1.d b d _ (by omega) (by omega) h2 g2 hb hd).mono ?_
  rintro e w4 ⟨Y, cy, rfl, ho4, hb4⟩
  have hry := ho4.row
  have hcy := ho4.capLe
  have hs4 := hb4.size
  have hs3 := HB3.size
  go_wp2
  go_ret3
  exact ⟨q, z, val b * val d, X3, cx3, Y, cy, rfl, hcz, hcy, hzl, hyl, hne, (hrz.lower (by omega)).below hb4, hry.lower (by omega), hsum.symm, HB3.trans (hb4.mono (by omega))⟩
end Go.Proofs.YtgffkaconhonlaaGreat
namespace Go.Proofs.YtgffkaconhonlaaGreat
set_option maxRecDepth 20000
open Go.RowKit
theorem Sz.ofRn {s : Bool} {x y p : Nat} {r : Rat} (h : rn s x y = r) (hx : Bd x p) (hy : Bd y p) (hp : 0 < p) : Sz r p := ⟨Bd.num h hx, Bd.den h hy hp⟩
theorem open2z (w : World) (v u : Rv) (W : World) (h : (((w.alloc (.cells #[.bool v.s, .slice v.A v.n v.c, .slice v.B v.m v.d] 26)).alloc (.cells #[.bool u.s, .slice u.A u.n u.c, .slice u.B u.m u.d] 26)).alloc (.cells #[.bool false, .slice none 0 0, .slice none 0 0] 26)) = W) :
  C3 W w.heap.size (.bool v.s) (.slice v.A v.n v.c) (.slice v.B v.m v.d) ∧ C3 W (w.heap.size + 1) (.bool u.s) (.slice u.A u.n u.c) (.slice u.B u.m u.d) ∧ C3 W (w.heap.size + 1 + 1) (.bool false) (.slice none 0 0) (.slice none 0 0) ∧ Below w.heap.size w W ∧ W.heap.size = w.heap.size + 3 := by
 subst h
 have e1 : (w.alloc (.cells #[.bool v.s, .slice v.A v.n v.c, .slice v.B v.m v.d] 26)).heap.size = w.heap.size + 1 := by simp
 have e2 : ((w.alloc (.cells #[.bool v.s, .slice v.A v.n v.c, .slice v.B v.m v.d] 26)).alloc (.cells #[.bool u.s, .slice u.A u.n u.c, .slice u.B u.m u.d] 26)).heap.size = w.heap.size + 1 + 1 := by simp
 refine ⟨((C3.new w (.bool v.s) (.slice v.A v.n v.c) (.slice v.B v.m v.d)).alloc _).alloc _, ?_, ?_, ?_, by simp⟩
 ·
  have := C3.new (w.alloc (.cells #[.bool v.s, .slice v.A v.n v.c, .slice v.B v.m v.d] 26)) (.bool u.s) (.slice u.A u.n u.c) (.slice u.B u.m u.d)
  rw [e1] at this; exact this.alloc _
 ·
  have := C3.new ((w.alloc (.cells #[.bool v.s, .slice v.A v.n v.c, .slice v.B v.m v.d] 26)).alloc (.cells #[.bool u.s, .slice u.A u.n u.c, .slice u.B u.m u.d] 26)) (.bool false) (.slice none 0 0) (.slice none 0 0)
  rw [e2] at this; exact this
 · exact (((Below.refl w.heap.size w).alloc (Nat.le_refl _) _).alloc (by simp) _).alloc (by simp; omega) _
theorem open2 (w : World) (v u : Rv) (W : World) (h : ((w.alloc (.cells #[.bool v.s, .slice v.A v.n v.c, .slice v.B v.m v.d] 26)).alloc (.cells #[.bool u.s, .slice u.A u.n u.c, .slice u.B u.m u.d] 26)) = W) :
  C3 W w.heap.size (.bool v.s) (.slice v.A v.n v.c) (.slice v.B v.m v.d) ∧ C3 W (w.heap.size + 1) (.bool u.s) (.slice u.A u.n u.c) (.slice u.B u.m u.d) ∧ Below w.heap.size w W ∧ W.heap.size = w.heap.size + 2 := by
 subst h
 have e1 : (w.alloc (.cells #[.bool v.s, .slice v.A v.n v.c, .slice v.B v.m v.d] 26)).heap.size = w.heap.size + 1 := by simp
 refine ⟨((C3.new w (.bool v.s) (.slice v.A v.n v.c) (.slice v.B v.m v.d)).alloc _), ?_, ?_, by simp⟩
 ·
  have := C3.new (w.alloc (.cells #[.bool v.s, .slice v.A v.n v.c, .slice v.B v.m v.d] 26)) (.bool u.s) (.slice u.A u.n u.c) (.slice u.B u.m u.d)
  rw [e1] at this; exact this
 · exact ((Below.refl w.heap.size w).alloc (Nat.le_refl _) _).alloc (by simp) _
theorem open1z (w : World) (v : Rv) (W : World) (h : ((w.alloc (.cells #[.bool v.s, .slice v.A v.n v.c, .slice v.B v.m v.d] 26)).alloc (.cells #[.bool false, .slice none 0 0, .slice none 0 0] 26)) = W) :
  C3 W w.heap.size (.bool v.s) (.slice v.A v.n v.c) (.slice v.B v.m v.d) ∧ C3 W (w.heap.size + 1) (.bool false) (.slice none 0 0) (.slice none 0 0) ∧ Below w.heap.size w W ∧ W.heap.size = w.heap.size + 2 := by
 subst h
 have e1 : (w.alloc (.cells #[.bool v.s, .slice v.A v.n v.c, .slice v.B v.m v.d] 26)).heap.size = w.heap.size + 1 := by simp
 refine ⟨((C3.new w (.bool v.s) (.slice v.A v.n v.c) (.slice v.B v.m v.d)).alloc _), ?_, ?_, by simp⟩
 ·
  have := C3.new (w.alloc (.cells #[.bool v.s, .slice v.A v.n v.c, .slice v.B v.m v.d] 26)) (.bool false) (.slice none 0 0) (.slice none 0 0)
  rw [e1] at this; exact this
 · exact ((Below.refl w.heap.size w).alloc (Nat.le_refl _) _).alloc (by simp) _
theorem open1 (w : World) (v : Rv) (W : World) (h : (w.alloc (.cells #[.bool v.s, .slice v.A v.n v.c, .slice v.B v.m v.d] 26)) = W) :
  C3 W w.heap.size (.bool v.s) (.slice v.A v.n v.c) (.slice v.B v.m v.d) ∧ Below w.heap.size w W ∧ W.heap.size = w.heap.size + 1 := by
 subst h
 exact ⟨C3.new w (.bool v.s) (.slice v.A v.n v.c) (.slice v.B v.m v.d), (Below.refl w.heap.size w).alloc (Nat.le_refl _) _, by simp⟩
set_option maxHeartbeats 800000 in
theorem Add_c (v u : Rv) (r s : Rat) (w : World) (hv : Rw w v r 30000000000) (hu : Rw w u s 30000000000) :
  Calls Tryz.prog 86 #[.agg #[.bool v.s, .slice v.A v.n v.c, .slice v.B v.m v.d], .agg #[.bool u.s, .slice u.A u.n u.c, .slice u.B u.m u.d]] w fun e w' => ∃ v : Rv, e = .returned (.agg #[.bool v.s, .slice v.A v.n v.c, .slice v.B v.m v.d]) ∧ Rt w' w.heap.size v (r + s) ∧ Below w.heap.size w w' := by
 go_enter Tryz.func86, Tryz.ntmps86
 go_wp2_with fail
 generalize hW : (((w.alloc (.cells #[.bool v.s, .slice v.A v.n v.c, .slice v.B v.m v.d] 26)).alloc (.cells #[.bool u.s, .slice u.A u.n u.c, .slice u.B u.m u.d] 26)).alloc (.cells #[.bool false, .slice none 0 0, .slice none 0 0] 26)) = W
 obtain ⟨ka, kb, kz, HW, hs⟩ := open2z w v u W hW
 clear hW
 refine (crosswise_any v u r s _ ((hv.below HW).more (by omega)) ((hu.below HW).more (by omega))).mono ?_
 rintro e w1 ⟨q, x, y, X, cx, Y, cy, rfl, hcx, hcy, hlx, hly, hy, hrx, hry, hq, hb1⟩
 replace kz := kz.below hb1
 have hs1 := hb1.size
 have HB := HW.trans (hb1.mono (by omega))
 clear hb1 ka kb
 go_wp2_with fail
 refine (Of_nums q X Y _ _ cx cy x y _ _ (r + s) _ (val_lim _) (val_lim _) (by omega) (by omega) hcx hcy (hrx.lower (Nat.zero_le _)) (hry.lower (Nat.zero_le _)) hq).mono ?_
 rintro e w2 ⟨z, rfl, hz, hb2⟩
 replace kz := kz.below hb2
 replace HB := HB.trans (hb2.mono (by omega))
 obtain ⟨q0, q1, q2, g0, g1, g2⟩ := kz.facts
 clear hb2 hrx hry
 go_wp2
 refine ret3 (fn := Tryz.f86) Tryz.results86 rfl rfl kz ?_
 exact ⟨z, rfl, (hz.put (by omega) _ _ _).lower (by omega), HB.trans (put3_below (by omega) _ _ _)⟩
set_option maxHeartbeats 1600000 in
theorem Mul_c (v u : Rv) (r s : Rat) (w : World) (hv : Rw w v r 30000000000) (hu : Rw w u s 30000000000) :
  Calls Tryz.prog 87 #[.agg #[.bool v.s, .slice v.A v.n v.c, .slice v.B v.m v.d], .agg #[.bool u.s, .slice u.A u.n u.c, .slice u.B u.m u.d]] w fun e w' => ∃ v : Rv, e = .returned (.agg #[.bool v.s, .slice v.A v.n v.c, .slice v.B v.m v.d]) ∧ Rt w' w.heap.size v (r * s) ∧ Below w.heap.size w w' := by
 go_enter Tryz.func87, Tryz.ntmps87
 go_wp2_with fail
 generalize hW : (((w.alloc (.cells #[.bool v.s, .slice v.A v.n v.c, .slice v.B v.m v.d] 26)).alloc (.cells #[.bool u.s, .slice u.A u.n u.c, .slice u.B u.m u.d] 26)).alloc (.cells #[.bool false, .slice none 0 0, .slice none 0 0] 26)) = W
 obtain ⟨ka, kb, kz, HW, hsW⟩ := open2z w v u W hW
 clear hW
 obtain ⟨h1, h2, h3, h4, a, b, ha, hb, hr⟩ := hv.below HW
 obtain ⟨g1, g2, g3, g4, c, d, hc, hd, hs⟩ := hu.below HW
 have hrs : rn (v.s != u.s) (val a * val c) (val b * val d) = r * s := by rw [← hr, ← hs, rn_mul]
 have hl1 : (lim (val a * val c)).length ≤ 60000000000 := ((ha.bd h3).mul (hc.bd g3)).len
 have hl2 : (lim (val b * val d)).length ≤ 60000000000 := ((hb.bd h4).mul (hd.bd g4)).len
 obtain ⟨a0, a1, a2, a3, a4, a5⟩ := ka.facts
 obtain ⟨b0, b1, b2, b3, b4, b5⟩ := kb.facts
 obtain ⟨z0, z1, z2, z3, z4, z5⟩ := kz.facts
 have hn1 : ¬ w.heap.size = w.heap.size + 1 + 1 := by omega
 have hn2 : ¬ w.heap.size + 1 + 1 = w.heap.size := by omega
 go_region_held3 (fun w' => w'.cell? ⟨w.heap.size, 0, none⟩ = some (.bool v.s) ∧ w'.cell? ⟨w.heap.size, 1, none⟩ = some (.slice v.A v.n v.c) ∧ w'.cell? ⟨w.heap.size, 2, none⟩ = some (.slice v.B v.m v.d) ∧ w'.cell? ⟨w.heap.size + 1, 0, none⟩ = some (.bool u.s) ∧ w'.cell? ⟨w.heap.size + 1, 1, none⟩ = some (.slice u.A u.n u.c) ∧ w'.cell? ⟨w.heap.size + 1, 2, none⟩ = some (.slice u.B u.m u.d)) (go_keep)
   (first
   | (
     go_at_call_of 80 v.A
     refine (Mul_any v.A u.A v.n u.n v.c u.c a c _ (by omega) (by omega) h1 g1 ha.drew hc.drew).mono ?_
     rintro e w1 ⟨X1, cx1, rfl, ho1, hb1⟩
     obtain ⟨a0, a1, a2, a3, a4, a5⟩ := (ka.drew.below hb1).facts
     obtain ⟨b0, b1, b2, b3, b4, b5⟩ := (kb.drew.below hb1).facts
     obtain ⟨z0, z1, z2, z3, z4, z5⟩ := (kz.drew.below hb1).facts)
   | (
     go_at_call_of 80 v.B
     refine (Mul_any v.B u.B v.m u.m v.d u.d b d _ (by omega) (by omega) h2 g2 (hb.drew.below hb1) (hd.drew.below hb1)).mono ?_
     rintro e w2 ⟨X2, cx2, rfl, ho2, hb2⟩
     obtain ⟨a0, a1, a2, a3, a4, a5⟩ := ((ka.drew.below hb1).below hb2).facts
     obtain ⟨b0, b1, b2, b3, b4, b5⟩ := ((kb.drew.below hb1).below hb2).facts
     obtain ⟨z0, z1, z2, z3, z4, z5⟩ := ((kz.drew.below hb1).below hb2).facts)
   | (
     go_at_call_of 76 X1
     refine (Of_nums (v.s != u.s) X1 X2 _ _ cx1 cx2 (val a * val c) (val b * val d) _ _ (r * s) _ (val_lim _) (val_lim _) (by omega) (by omega) ho1.capLe ho2.capLe ((ho1.row.below hb2).lower (Nat.zero_le _)) (ho2.row.lower (Nat.zero_le _)) hrs).mono ?_
     rintro e w3 ⟨z, rfl, hz, hb3⟩
     obtain ⟨a0, a1, a2, a3, a4, a5⟩ := (((ka.drew.below hb1).below hb2).below hb3).facts
     obtain ⟨b0, b1, b2, b3, b4, b5⟩ := (((kb.drew.below hb1).below hb2).below hb3).facts
     obtain ⟨z0, z1, z2, z3, z4, z5⟩ := (((kz.drew.below hb1).below hb2).below hb3).facts))
 have hs1 : W.heap.size ≤ w1.heap.size := hb1.size
 have hs2 := hb2.size
 have hs3 := hb3.size
 have kz3 := ((kz.drew.below hb1).below hb2).below hb3
 have HB3 : Below w.heap.size w w3 := HW.trans ((below_drewN' w.heap.size W 1).trans ((hb1.mono (by show _ ≤ W.heap.size; omega)).trans ((hb2.mono (by omega)).trans (hb3.mono (by omega)))))
 clear hb1 hb2 hb3 ka kb
 go_wp2
 refine ret3 (fn := Tryz.f87) Tryz.results87 rfl rfl kz3 ?_
 exact ⟨z, rfl, (hz.put (by omega) _ _ _).lower (by omega), HB3.trans (put3_below (by omega) _ _ _)⟩
end Go.Proofs.YtgffkaconhonlaaGreat
