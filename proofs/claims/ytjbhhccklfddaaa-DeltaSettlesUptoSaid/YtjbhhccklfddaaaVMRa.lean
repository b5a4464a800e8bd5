/-
  Rationals, no program: what a sign and two naturals are worth; sums, products, quotients, floors of these.
  The program's rationals, first part: whether a row is 0, one, nought, a quotient, a number of its parts.
  The program's rationals, second part: a number of its parts, normal.
  The program's rationals, third part: a number's parts, normal; whole numbers; whether it is 0, is too large; its other sign.
  The program's rationals, fourth part: sums, products, quotients, comparisons, floors.
  The program's rationals, fifth part: sums, differences, the other sign, comparisons.
-/
import Derived.Test.YtjbhhccklfddaaaVMNb
import Derived.Test.YtjbhhccklfddaaaVMNd
import Derived.Test.YtjbhhccklfddaaaVMNg
import Derived.Outline
import Derived.Sort.AtCall
import Derived.Deep.RegionHeld3
namespace Go.Proofs.Ytjbhhccklfddaaa
set_option maxRecDepth 20000
def rn (s : Bool) (x y : Nat) : Rat := mkRat (if s then -(x : Int) else (x : Int)) y
theorem rn_zero {s : Bool} {x y : Nat} (h : x = 0 ∨ y = 0) : rn s x y = 0 := by
 unfold rn
 rcases h with rfl | rfl
 · cases s <;> simp
 · simp
theorem rn_absI (s : Bool) (x : Nat) : (if s then -(x : Int) else (x : Int)).natAbs = x := by cases s <;> simp
theorem rn_abs {s : Bool} {x y : Nat} (hy : y ≠ 0) : (rn s x y).num.natAbs = x / Nat.gcd x y := by
 unfold rn
 rw [Rat.num_mkRat, if_neg hy, rn_absI, Int.natAbs_ediv_of_dvd, rn_absI, Nat.gcd_comm]
 · rfl
 · rw [Int.ofNat_dvd_left, rn_absI]; exact Nat.gcd_dvd_right _ _
theorem rn_den {s : Bool} {x y : Nat} (hy : y ≠ 0) : (rn s x y).den = y / Nat.gcd x y := by
 unfold rn
 rw [Rat.den_mkRat, if_neg hy, rn_absI, Nat.gcd_comm]
theorem rn_neg (s : Bool) (x y : Nat) : -rn s x y = rn (!s) x y := by
 unfold rn; rw [Rat.neg_mkRat]; cases s <;> simp
theorem mkRat_nonneg {x y : Nat} : 0 ≤ (mkRat (x : Int) y).num := by
 rw [Rat.num_mkRat]
 split
 · exact Int.le_refl _
 · exact Int.ediv_nonneg (by omega) (by omega)
theorem rn_pos (x y : Nat) : 0 ≤ (rn false x y).num := mkRat_nonneg
theorem rn_ne {s : Bool} {x y : Nat} (hx : x ≠ 0) (hy : y ≠ 0) : rn s x y ≠ 0 := by
 unfold rn
 rw [Rat.mkRat_ne_zero hy]; cases s <;> simp <;> omega
theorem num_ne {r : Rat} (h : r ≠ 0) : r.num ≠ 0 := fun e => h (Rat.num_eq_zero.1 e)
theorem rn_sign {s : Bool} {x y : Nat} (hx : x ≠ 0) (hy : y ≠ 0) : decide ((rn s x y).num < 0) = s := by
 cases s
 ·
  have := rn_pos x y
  rw [decide_eq_false_iff_not]; omega
 ·
  have e : rn true x y = -rn false x y := by rw [rn_neg]; rfl
  have h1 := rn_pos x y
  have h2 := num_ne (rn_ne (s := false) hx hy)
  rw [e, decide_eq_true_iff, Rat.neg_num]; omega
theorem rn_self (r : Rat) : rn (decide (r.num < 0)) r.num.natAbs r.den = r := by
 unfold rn
 have : (if decide (r.num < 0) = true then -((r.num.natAbs : Nat) : Int) else (r.num.natAbs : Int)) = r.num := by
  split
  · rename_i h; rw [decide_eq_true_iff] at h; omega
  · rename_i h; rw [decide_eq_true_iff] at h; omega
 rw [this, Rat.mkRat_self]
theorem rn_add (s : Bool) {x y u v : Nat} (hy : y ≠ 0) (hv : v ≠ 0) : rn s x y + rn s u v = rn s (x * v + u * y) (y * v) := by
 unfold rn
 rw [Rat.mkRat_add_mkRat _ _ hy hv]
 cases s <;> simp [Int.neg_mul, Int.neg_add]
theorem rn_sub {s t : Bool} {x y u v : Nat} (hst : t = !s) (hy : y ≠ 0) (hv : v ≠ 0) (h : u * y ≤ x * v) : rn s x y + rn t u v = rn s (x * v - u * y) (y * v) := by
 subst hst
 unfold rn
 rw [Rat.mkRat_add_mkRat _ _ hy hv]
 have e : ((x * v - u * y : Nat) : Int) = (x : Int) * v - (u : Int) * y := by rw [Int.ofNat_sub h]; simp
 rw [e]
 cases s <;> simp [Int.neg_mul] <;> congr 1 <;> omega
theorem rn_sub' {s t : Bool} {x y u v : Nat} (hst : t = !s) (hy : y ≠ 0) (hv : v ≠ 0) (h : x * v ≤ u * y) : rn s x y + rn t u v = rn t (u * y - x * v) (y * v) := by
 rw [Rat.add_comm, rn_sub (by subst hst; simp) hv hy h, Nat.mul_comm v y]
theorem rn_int (s : Bool) (x : Nat) : rn s x 1 = (((if s then -(x : Int) else (x : Int)) : Int) : Rat) := by
 unfold rn
 exact Rat.mkRat_self (((if s then -(x : Int) else (x : Int)) : Int) : Rat)
theorem rn_abs_le {s : Bool} {x y : Nat} : (rn s x y).num.natAbs ≤ x := by
 by_cases hy : y = 0
 · rw [rn_zero (.inr hy)]; simp
 · rw [rn_abs hy]; exact Nat.div_le_self _ _
theorem rn_den_le {s : Bool} {x y : Nat} : (rn s x y).den ≤ max y 1 := by
 by_cases hy : y = 0
 · rw [rn_zero (.inr hy)]; simp; omega
 · rw [rn_den hy]; have := Nat.div_le_self y (Nat.gcd x y); omega
theorem Bd.num {r : Rat} {s : Bool} {x y p : Nat} (h : rn s x y = r) (hx : Bd x p) : Bd r.num.natAbs p := by
 subst h; exact hx.le rn_abs_le
theorem Bd.den {r : Rat} {s : Bool} {x y p : Nat} (h : rn s x y = r) (hy : Bd y p) (hp : 0 < p) : Bd r.den p := by
 subst h
 have h1 : Bd 1 p := Nat.lt_of_lt_of_le (by omega) (Nat.pow_le_pow_right (show 0 < 4294967296 by omega) hp)
 unfold Bd at *
 have := rn_den_le (s := s) (x := x) (y := y)
 omega
end Go.Proofs.Ytjbhhccklfddaaa
namespace Go.Proofs.Ytjbhhccklfddaaa
set_option maxRecDepth 20000
open Go.RowKit
structure Rv where
 s : Bool
 A : Option Addr
 n : Nat
 c : Nat
 B : Option Addr
 m : Nat
 d : Nat
structure Rt (w : World) (lo : Nat) (v : Rv) (r : Rat) : Prop where
 sign : v.s = decide (r.num < 0)
 numLen : v.n = (lim r.num.natAbs).length
 numCap : v.n ≤ v.c
 num : Row w lo v.A v.n (lim r.num.natAbs)
 denLen : v.m = (lim r.den).length
 denCap : v.m ≤ v.d
 den : Row w lo v.B v.m (lim r.den)
structure Rw (w : World) (v : Rv) (r : Rat) (p : Nat) : Prop where
 numCap : v.n ≤ v.c
 denCap : v.m ≤ v.d
 numLe : v.n ≤ p
 denLe : v.m ≤ p
 rows : ∃ (a b : List Nat), Row w 0 v.A v.n a ∧ Row w 0 v.B v.m b ∧ rn v.s (val a) (val b) = r
theorem Rt.below {w w' : World} {lo : Nat} {v : Rv} {r : Rat} (h : Rt w lo v r) (hb : Below w.heap.size w w') : Rt w' lo v r :=
 ⟨h.1, h.2, h.3, h.4.below hb, h.5, h.6, h.7.below hb⟩
theorem Rt.lower {w : World} {lo lo' : Nat} {v : Rv} {r : Rat} (h : Rt w lo v r) (hl : lo' ≤ lo) : Rt w lo' v r :=
 ⟨h.1, h.2, h.3, h.4.lower hl, h.5, h.6, h.7.lower hl⟩
theorem Rw.below {w w' : World} {v : Rv} {r : Rat} {p : Nat} (h : Rw w v r p) (hb : Below w.heap.size w w') : Rw w' v r p := by
 obtain ⟨h1, h2, h3, h4, a, b, ha, hb', hr⟩ := h
 exact ⟨h1, h2, h3, h4, a, b, ha.below hb, hb'.below hb, hr⟩
theorem Rw.alloc {w : World} {v : Rv} {r : Rat} {p : Nat} (h : Rw w v r p) (o : Obj) : Rw (w.alloc o) v r p := h.below ((Below.refl _ _).alloc (Nat.le_refl _) o)
theorem Rw.more {w : World} {v : Rv} {r : Rat} {p q : Nat} (h : Rw w v r p) (hq : p ≤ q) : Rw w v r q := by
 obtain ⟨h1, h2, h3, h4, rest⟩ := h
 exact ⟨h1, h2, by omega, by omega, rest⟩
structure Sz (r : Rat) (p : Nat) : Prop where
 num : Bd r.num.natAbs p
 den : Bd r.den p
theorem Rt.rw {w : World} {lo : Nat} {v : Rv} {r : Rat} {p : Nat} (h : Rt w lo v r) (hz : Sz r p) : Rw w v r p := by
 refine ⟨h.3, h.6, by rw [h.2]; exact hz.num.len, by rw [h.5]; exact hz.den.len, _, _, h.4.lower (Nat.zero_le _), h.7.lower (Nat.zero_le _), ?_⟩
 rw [val_lim, val_lim, h.1]; exact rn_self r
theorem Rw.sz {w : World} {v : Rv} {r : Rat} {p : Nat} (h : Rw w v r p) (hp : 0 < p) : Sz r p := by
 obtain ⟨h1, h2, h3, h4, a, b, ha, hb', hr⟩ := h
 exact ⟨Bd.num hr (ha.bd h3), Bd.den hr (hb'.bd h4) hp⟩
theorem nbits_zero {x : Nat} (h : x = 0) : nbits x = 0 := by subst h; unfold nbits; rw [lim_zero]; rfl
theorem nbits_pos {x : Nat} (h : x ≠ 0) : 0 < nbits x := by
 unfold nbits
 have hl : (lim x).length ≠ 0 := by rw [lim_pos h]; simp
 rw [if_neg hl]
 have ht := lim_tr x
 unfold Tr at ht
 have h1 : dg (lim x) ((lim x).length - 1) ≠ 0 := by
  rcases ht with h | h
  · exact absurd h hl
  · exact h
 have h2 : ∀ y : Nat, y ≠ 0 → 0 < Lib.bitLen y := by
  intro y hy
  unfold Lib.bitLen
  show 0 < (if y = 0 then 0 else 1 + Lib.bitLenAux 63 (y / 2))
  rw [if_neg hy]; omega
 have := h2 _ h1
 omega
def C3 (w : World) (b : Nat) (x y z : Value) : Prop := w.heap[b]? = some (.cells #[x, y, z] 37 (0, 0))
theorem C3.lt {w : World} {b : Nat} {x y z : Value} (h : C3 w b x y z) : b < w.heap.size := by
 rcases Nat.lt_or_ge b w.heap.size with h1 | h1
 · exact h1
 ·
  have : w.heap[b]? = none := Array.getElem?_eq_none h1
  rw [C3, this] at h; cases h
theorem C3.below {w w' : World} {b : Nat} {x y z : Value} (h : C3 w b x y z) (hb : Below w.heap.size w w') : C3 w' b x y z := (hb.block b h.lt).trans h
theorem C3.at {w w' : World} {B b : Nat} {x y z : Value} (h : C3 w b x y z) (hb : Below B w w') (hB : b < B) : C3 w' b x y z := (hb.block b hB).trans h
theorem C3.new (w : World) (x y z : Value) : C3 (w.alloc (.cells #[x, y, z] 37)) w.heap.size x y z := heap_alloc_new w _
theorem C3.alloc {w : World} {b : Nat} {x y z : Value} (h : C3 w b x y z) (o : Obj) : C3 (w.alloc o) b x y z := h.below ((Below.refl _ _).alloc (Nat.le_refl _) o)
theorem C3.facts {w : World} {b : Nat} {x y z : Value} (h : C3 w b x y z) :
  w.cell? ⟨b, 0, none⟩ = some x ∧ w.cell? ⟨b, 1, none⟩ = some y ∧ w.cell? ⟨b, 2, none⟩ = some z ∧ w.frozen? ⟨b, 0, none⟩ = false ∧ w.frozen? ⟨b, 1, none⟩ = false ∧ w.frozen? ⟨b, 2, none⟩ = false := by
 have h' : w.heap[b]? = some (.cells #[x, y, z] 37 (0, 0)) := h
 refine ⟨?_, ?_, ?_, ?_, ?_, ?_⟩ <;> simp [World.cell?, World.frozen?, h']
abbrev put3 (w : World) (b : Nat) (x y z : Value) : World := ((w.setCell ⟨b, 0, none⟩ x).setCell ⟨b, 1, none⟩ y).setCell ⟨b, 2, none⟩ z
theorem C3.set0 {w : World} {b : Nat} {p q r : Value} (h : C3 w b p q r) (x : Value) : C3 (w.setCell ⟨b, 0, none⟩ x) b x q r := by
 have h' : w.heap[b]? = some (.cells #[p, q, r] 37 (0, 0)) := h
 show (w.heap.modify b _)[b]? = _
 rw [Array.getElem?_modify, if_pos rfl, h']; rfl
theorem C3.set1 {w : World} {b : Nat} {p q r : Value} (h : C3 w b p q r) (x : Value) : C3 (w.setCell ⟨b, 1, none⟩ x) b p x r := by
 have h' : w.heap[b]? = some (.cells #[p, q, r] 37 (0, 0)) := h
 show (w.heap.modify b _)[b]? = _
 rw [Array.getElem?_modify, if_pos rfl, h']; rfl
theorem C3.set2 {w : World} {b : Nat} {p q r : Value} (h : C3 w b p q r) (x : Value) : C3 (w.setCell ⟨b, 2, none⟩ x) b p q x := by
 have h' : w.heap[b]? = some (.cells #[p, q, r] 37 (0, 0)) := h
 show (w.heap.modify b _)[b]? = _
 rw [Array.getElem?_modify, if_pos rfl, h']; rfl
theorem C3.put {w : World} {b : Nat} {p q r : Value} (h : C3 w b p q r) (x y z : Value) : C3 (put3 w b x y z) b x y z := ((h.set0 x).set1 y).set2 z
theorem put3_below {w : World} {b B : Nat} (hB : B ≤ b) (x y z : Value) : Below B w (put3 w b x y z) := by
 have h1 : ∀ (w : World) (j : Nat) (x : Value), Below B w (w.setCell ⟨b, j, none⟩ x) := fun w j x => (Below.refl B w).setCell (by simpa using hB) x
 exact ((h1 _ _ _).trans (h1 _ _ _)).trans (h1 _ _ _)
theorem Row.put {w : World} {lo n b : Nat} {A : Option Addr} {l : List Nat} (h : Row w lo A n l) (hb : b < lo) (x y z : Value) : Row (put3 w b x y z) lo A n l := by
 have h1 : ∀ (w : World) (j : Nat) (x : Value), Row w lo A n l → Row (w.setCell ⟨b, j, none⟩ x) lo A n l := by
  intro w j x h
  refine ⟨h.len, h.l32, fun hn => ?_⟩
  obtain ⟨b', off, e, h1, h2, hc⟩ := h.mem hn
  refine ⟨b', off, e, h1, by simpa using h2, fun j' hj => ?_⟩
  rw [World.cell?_setCell_other w _ _ x (by intro e; injection e; omega)]
  exact hc j' hj
 exact h1 _ _ _ (h1 _ _ _ (h1 _ _ _ h))
theorem Rt.put {w : World} {lo b : Nat} {v : Rv} {r : Rat} (h : Rt w lo v r) (hb : b < lo) (x y z : Value) : Rt (put3 w b x y z) lo v r :=
 ⟨h.1, h.2, h.3, h.4.put hb x y z, h.5, h.6, h.7.put hb x y z⟩
theorem Row.apart {w : World} {lo n b : Nat} {A : Option Addr} {l : List Nat} (h : Row w lo A n l) {v : Rv} (k : C3 w b (.bool v.s) (.slice v.A v.n v.c) (.slice v.B v.m v.d)) (hn : 0 < n) : ∃ b' off, A = some ⟨b', off, none⟩ ∧ b' ≠ b := by
 obtain ⟨b', off, e, h1, h2, hc⟩ := h.mem hn
 refine ⟨b', off, e, fun hbb => ?_⟩
 subst hbb
 have h' : w.heap[b']? = some (.cells #[.bool v.s, .slice v.A v.n v.c, .slice v.B v.m v.d] 37 (0, 0)) := k
 have h0 := hc 0 hn
 rw [Nat.add_zero] at h0
 rcases Nat.lt_or_ge off 3 with h3 | h3
 ·
  have : off = 0 ∨ off = 1 ∨ off = 2 := by omega
  rcases this with rfl | rfl | rfl <;> simp [World.cell?, h'] at h0
 ·
  have hn : (#[Value.bool v.s, .slice v.A v.n v.c, .slice v.B v.m v.d] : Array Value)[off]? = none := Array.getElem?_eq_none (by simpa using h3)
  simp [World.cell?, h', hn] at h0
theorem Row.putC {w : World} {lo n b : Nat} {A : Option Addr} {l : List Nat} (h : Row w lo A n l) {v : Rv} (k : C3 w b (.bool v.s) (.slice v.A v.n v.c) (.slice v.B v.m v.d)) (x y z : Value) : Row (put3 w b x y z) lo A n l := by
 by_cases hn : 0 < n
 ·
  obtain ⟨b', off, e, hne⟩ := h.apart k hn
  have hs : ∀ ad, A = some ad → ad.block ≠ b := by intro ad ea; rw [e] at ea; injection ea with ea; subst ea; exact hne
  exact ((h.set _ hs).set _ hs).set _ hs
 ·
  have h0 : n = 0 := by omega
  subst h0
  exact ⟨h.len, h.l32, fun h => absurd h (by omega)⟩
theorem Rw.putC {w : World} {b p : Nat} {r : Rat} {u : Rv} (h : Rw w u r p) {v : Rv} (k : C3 w b (.bool v.s) (.slice v.A v.n v.c) (.slice v.B v.m v.d)) (x y z : Value) : Rw (put3 w b x y z) u r p := by
 obtain ⟨h1, h2, h3, h4, a, b', ha, hb', hr⟩ := h
 exact ⟨h1, h2, h3, h4, a, b', ha.putC k x y z, hb'.putC k x y z, hr⟩
theorem Rt.putC {w : World} {lo b : Nat} {r : Rat} {u : Rv} (h : Rt w lo u r) {v : Rv} (k : C3 w b (.bool v.s) (.slice v.A v.n v.c) (.slice v.B v.m v.d)) (x y z : Value) : Rt (put3 w b x y z) lo u r :=
 ⟨h.1, h.2, h.3, h.4.putC k x y z, h.5, h.6, h.7.putC k x y z⟩
theorem ret3c {fn : Func} {t : Tmp} {R : Ending → World → Prop} {a : Act} {w : World} {b : Nat} {x y z : Value} (hres : fn.results = #[.cell t 37]) (ht : a.tmps.getD t undef = .pointer (some ⟨b, 0, none⟩)) (hd : a.defers = [])
  (hk : C3 w b x y z) (hR : R (.returned (.agg #[x, y, z])) w) : bodyPost Try.prog fn R .ret a w := by
 obtain ⟨q0, q1, q2, g0, g1, g2⟩ := hk.facts
 have ht' : (a.tmps[t]?.getD undef) = .pointer (some ⟨b, 0, none⟩) := by simpa using ht
 refine bodyPost_ret (v := .agg #[x, y, z]) ?_ hd hR
 simp [results, hres, go_sem, ht', q0, q1, q2]
theorem ret3 {fn : Func} {t : Tmp} {R : Ending → World → Prop} {a : Act} {w : World} {b : Nat} {p q r x y z : Value} (hres : fn.results = #[.cell t 37]) (ht : a.tmps.getD t undef = .pointer (some ⟨b, 0, none⟩)) (hd : a.defers = [])
  (hk : C3 w b p q r) (hR : R (.returned (.agg #[x, y, z])) (put3 w b x y z)) : bodyPost Try.prog fn R .ret a (put3 w b x y z) := ret3c hres ht hd (hk.put x y z) hR
set_option maxHeartbeats 400000 in
theorem isNought_yes (A : Option Addr) (n c : Nat) (a : List Nat) (w : World) (hn : n ≤ 1000000000000) (hcn : n ≤ c) (ha : Row w 0 A n a) (h : val a = 0) :
  Calls Try.prog 69 #[.slice A n c] w fun e w' => e = .returned (.bool true) ∧ w = w' := by
 have hz := nbits_zero h
 go_enter Try.func69, Try.ntmps69
 go_wp2_with fail
 refine (Bits_any A n c a _ hn hcn ha).mono ?_
 rintro e w' ⟨rfl, rfl⟩
 rw [hz]
 go_wp2
 go_ret
 exact ⟨rfl, rfl⟩
set_option maxHeartbeats 400000 in
theorem isNought_no (A : Option Addr) (n c : Nat) (a : List Nat) (w : World) (hn : n ≤ 1000000000000) (hcn : n ≤ c) (ha : Row w 0 A n a) (h : val a ≠ 0) :
  Calls Try.prog 69 #[.slice A n c] w fun e w' => e = .returned (.bool false) ∧ w = w' := by
 have hz := nbits_pos h
 go_enter Try.func69, Try.ntmps69
 go_wp2_with fail
 refine (Bits_any A n c a _ hn hcn ha).mono ?_
 rintro e w' ⟨rfl, rfl⟩
 have hb : ((nbits (val a) : Nat) : Int) ≠ 0 := by omega
 have hb2 : (((nbits (val a) : Nat) : Int) == 0) = false := by rw [beq_eq_false_iff_ne]; exact hb
 go_wp2
 go_ret
 exact ⟨rfl, rfl⟩
set_option maxHeartbeats 400000 in
theorem one_any (w : World) :
  Calls Try.prog 72 #[] w fun e w' => ∃ A c, e = .returned (.slice A (lim 1).length c) ∧ Own w' w.heap.size A c (lim 1).length (lim 1) ∧ Below w.heap.size w w' := by
 go_enter Try.func72, Try.ntmps72
 go_wp2_with fail
 refine (Of_any 1 _ (by omega)).mono ?_
 rintro e w' ⟨A, c, rfl, ho, hb⟩
 go_wp2
 go_ret
 exact ⟨A, c, rfl, ho, hb⟩
end Go.Proofs.Ytjbhhccklfddaaa
namespace Go.Proofs.Ytjbhhccklfddaaa
set_option maxRecDepth 20000
open Go.RowKit
theorem Rt.parts {w : World} {lo : Nat} {s : Bool} {x y : Nat} {v : Rv} (hx : x ≠ 0) (hy : y ≠ 0) (hs : v.s = s) (hn : v.n = (lim (x / Nat.gcd x y)).length) (hm : v.m = (lim (y / Nat.gcd x y)).length) (hc : v.n ≤ v.c) (hd : v.m ≤ v.d)
  (h1 : Row w lo v.A v.n (lim (x / Nat.gcd x y))) (h2 : Row w lo v.B v.m (lim (y / Nat.gcd x y))) : Rt w lo v (rn s x y) := by
 refine ⟨by rw [rn_sign hx hy]; exact hs, ?_, hc, ?_, ?_, hd, ?_⟩
 · rw [rn_abs hy]; exact hn
 · rw [rn_abs hy]; exact h1
 · rw [rn_den hy]; exact hm
 · rw [rn_den hy]; exact h2
end Go.Proofs.Ytjbhhccklfddaaa
namespace Go.Proofs.Ytjbhhccklfddaaa
set_option maxRecDepth 20000
open Go.RowKit
set_option maxHeartbeats 400000 in
theorem Zero_any (v : Rv) (r : Rat) (w : World) (hv : Rw w v r 50000000000) :
  Calls Try.prog 73 #[.agg #[.bool v.s, .slice v.A v.n v.c, .slice v.B v.m v.d]] w fun e w' => e = .returned (.bool (decide (r = 0))) ∧ Below w.heap.size w w' := by
 obtain ⟨h1, h2, h3, h4, a, b, ha, hb, hr⟩ := hv
 subst hr
 have HB := ((Below.refl w.heap.size w).alloc (Nat.le_refl _) (.cells #[.bool v.s, .slice v.A v.n v.c, .slice v.B v.m v.d] 37))
 by_cases h : val a = 0
 ·
  rw [decide_eq_true (rn_zero (.inl h))]
  go_enter Try.func73, Try.ntmps73
  go_wp2_with fail
  refine (isNought_yes v.A v.n v.c a _ (by omega) h1 (ha.below HB) h).mono ?_
  rintro e w' ⟨rfl, rfl⟩
  go_wp2
  go_ret
  exact ⟨rfl, HB⟩
 ·
  by_cases h' : val b = 0
  ·
   rw [decide_eq_true (rn_zero (.inr h'))]
   go_enter Try.func73, Try.ntmps73
   go_wp2_with fail
   refine (isNought_no v.A v.n v.c a _ (by omega) h1 (ha.below HB) h).mono ?_
   rintro e w' ⟨rfl, rfl⟩
   go_wp2_with fail
   refine (isNought_yes v.B v.m v.d b _ (by omega) h2 (hb.below HB) h').mono ?_
   rintro e w' ⟨rfl, rfl⟩
   go_wp2
   go_ret
   exact ⟨rfl, HB⟩
  ·
   rw [decide_eq_false (rn_ne h h')]
   go_enter Try.func73, Try.ntmps73
   go_wp2_with fail
   refine (isNought_no v.A v.n v.c a _ (by omega) h1 (ha.below HB) h).mono ?_
   rintro e w' ⟨rfl, rfl⟩
   go_wp2_with fail
   refine (isNought_no v.B v.m v.d b _ (by omega) h2 (hb.below HB) h').mono ?_
   rintro e w' ⟨rfl, rfl⟩
   go_wp2
   go_ret
   exact ⟨rfl, HB⟩
structure Rd (w : World) (v : Rv) (r : Rat) (p : Nat) : Prop where
 numCap : v.n ≤ v.c
 denCap : v.m ≤ v.d
 numLe : v.n ≤ p
 denLe : v.m ≤ p
 rows : ∃ (a b : List Nat), Row w 0 v.A v.n a ∧ Row w 0 v.B v.m b ∧ rn v.s (val a) (val b) = r ∧ val b ≠ 0
theorem Rd.below {w w' : World} {v : Rv} {r : Rat} {p : Nat} (h : Rd w v r p) (hb : Below w.heap.size w w') : Rd w' v r p := by
 obtain ⟨h1, h2, h3, h4, a, b, ha, hb', hr⟩ := h
 exact ⟨h1, h2, h3, h4, a, b, ha.below hb, hb'.below hb, hr⟩
theorem Rt.rd {w : World} {lo : Nat} {v : Rv} {r : Rat} {p : Nat} (h : Rt w lo v r) (hz : Sz r p) : Rd w v r p := by
 refine ⟨h.3, h.6, by rw [h.2]; exact hz.num.len, by rw [h.5]; exact hz.den.len, _, _, h.4.lower (Nat.zero_le _), h.7.lower (Nat.zero_le _), ?_, ?_⟩
 · rw [val_lim, val_lim, h.1]; exact rn_self r
 · rw [val_lim]; exact r.den_nz
theorem Sz.zero {p : Nat} (hp : 0 < p) : Sz 0 p := by
 have h1 : 4294967296 ^ 1 ≤ 4294967296 ^ p := Nat.pow_le_pow_right (by omega) hp
 exact ⟨show 0 < 4294967296 ^ p by omega, show 1 < 4294967296 ^ p by omega⟩
theorem rn_int_eq (i : Int) (s : Bool) (x : Nat) (h : (if s then -(x : Int) else (x : Int)) = i) : rn s x 1 = (i : Rat) := by rw [rn_int, h]
end Go.Proofs.Ytjbhhccklfddaaa
namespace Go.Proofs.Ytjbhhccklfddaaa
set_option maxRecDepth 20000
open Go.RowKit
theorem Rd.putC {w : World} {b p : Nat} {r : Rat} {u : Rv} (h : Rd w u r p) {v : Rv} (k : C3 w b (.bool v.s) (.slice v.A v.n v.c) (.slice v.B v.m v.d)) (x y z : Value) : Rd (put3 w b x y z) u r p := by
 obtain ⟨h1, h2, h3, h4, a, b', ha, hb', hr⟩ := h
 exact ⟨h1, h2, h3, h4, a, b', ha.putC k x y z, hb'.putC k x y z, hr⟩
theorem C3.drew {w : World} {b : Nat} {x y z : Value} (h : C3 w b x y z) : C3 w.drew b x y z := h
theorem Rw.drew {w : World} {v : Rv} {r : Rat} {p : Nat} (h : Rw w v r p) : Rw w.drew v r p := h.below ⟨rfl, rfl, rfl, Nat.le_refl _, fun _ _ => rfl⟩
end Go.Proofs.Ytjbhhccklfddaaa
namespace Go.Proofs.Ytjbhhccklfddaaa
set_option maxRecDepth 20000
open Go.RowKit
theorem Sz.ofRn {s : Bool} {x y p : Nat} {r : Rat} (h : rn s x y = r) (hx : Bd x p) (hy : Bd y p) (hp : 0 < p) : Sz r p := ⟨Bd.num h hx, Bd.den h hy hp⟩
theorem open1z (w : World) (v : Rv) (W : World) (h : ((w.alloc (.cells #[.bool v.s, .slice v.A v.n v.c, .slice v.B v.m v.d] 37)).alloc (.cells #[.bool false, .slice none 0 0, .slice none 0 0] 37)) = W) :
  C3 W w.heap.size (.bool v.s) (.slice v.A v.n v.c) (.slice v.B v.m v.d) ∧ C3 W (w.heap.size + 1) (.bool false) (.slice none 0 0) (.slice none 0 0) ∧ Below w.heap.size w W ∧ W.heap.size = w.heap.size + 2 := by
 subst h
 have e1 : (w.alloc (.cells #[.bool v.s, .slice v.A v.n v.c, .slice v.B v.m v.d] 37)).heap.size = w.heap.size + 1 := by simp
 refine ⟨((C3.new w (.bool v.s) (.slice v.A v.n v.c) (.slice v.B v.m v.d)).alloc _), ?_, ?_, by simp⟩
 ·
  have := C3.new (w.alloc (.cells #[.bool v.s, .slice v.A v.n v.c, .slice v.B v.m v.d] 37)) (.bool false) (.slice none 0 0) (.slice none 0 0)
  rw [e1] at this; exact this
 · exact ((Below.refl w.heap.size w).alloc (Nat.le_refl _) _).alloc (by simp) _
theorem open1 (w : World) (v : Rv) (W : World) (h : (w.alloc (.cells #[.bool v.s, .slice v.A v.n v.c, .slice v.B v.m v.d] 37)) = W) :
  C3 W w.heap.size (.bool v.s) (.slice v.A v.n v.c) (.slice v.B v.m v.d) ∧ Below w.heap.size w W ∧ W.heap.size = w.heap.size + 1 := by
 subst h
 exact ⟨C3.new w (.bool v.s) (.slice v.A v.n v.c) (.slice v.B v.m v.d), (Below.refl w.heap.size w).alloc (Nat.le_refl _) _, by simp⟩
end Go.Proofs.Ytjbhhccklfddaaa
