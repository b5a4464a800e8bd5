/-
  The program's rationals, first part: whether a row is 0, one, nought, a quotient, a number of its parts.
-/
import Derived.Test.YtgfajmnmeggaeaaRatNum
import Derived.Test.YtgfajmnmeggaeaaGcd
import Derived.Test.YtgfajmnmeggaeaaNSub
import Derived.Outline
namespace Go.Proofs.Ytgfajmnmeggaeaa
set_option maxRecDepth 20000
open Go.RowKit

/-- What a rational's struct holds: its sign, its two slices. -/
structure Rv where
  s : Bool
  A : Option Addr
  n : Nat
  c : Nat
  B : Option Addr
  m : Nat
  d : Nat

/-- It reads as the rational r, normal; its rows are not below lo. -/
structure Rt (w : World) (lo : Nat) (v : Rv) (r : Rat) : Prop where
  sign : v.s = decide (r.num < 0)
  numLen : v.n = (lim r.num.natAbs).length
  numCap : v.n ≤ v.c
  num : Row w lo v.A v.n (lim r.num.natAbs)
  denLen : v.m = (lim r.den).length
  denCap : v.m ≤ v.d
  den : Row w lo v.B v.m (lim r.den)

/-- It reads as the rational r, of at most p limbs each: any sign and rows. -/
structure Rw (w : World) (v : Rv) (r : Rat) (p : Nat) : Prop where
  numCap : v.n ≤ v.c
  denCap : v.m ≤ v.d
  numLe : v.n ≤ p
  denLe : v.m ≤ p
  rows : ∃ (a b : List Nat), Row w 0 v.A v.n a ∧ Row w 0 v.B v.m b ∧ rn v.s (val a) (val b) = r

theorem Rt.below {w w' : World} {lo : Nat} {v : Rv} {r : Rat} (h : Rt w lo v r) (hb : Below w.heap.size w w') : Rt w' lo v r :=
  ⟨h.1, h.2, h.3, h.4.below hb, h.5, h.6, h.7.below hb⟩
theorem Rt.lower {w : World} {lo lo' : Nat} {v : Rv} {r : Rat} (h : Rt w lo v r) (hl : lo' ≤ lo) : Rt w lo' v r :=
  ⟨h.1, h.2, h.3, h.4.lower hl, h.5, h.6, h.7.lower hl⟩
theorem Rw.below {w w' : World} {v : Rv} {r : Rat} {p : Nat} (h : Rw w v r p) (hb : Below w.heap.size w w') : Rw w' v r p := by
  obtain ⟨h1, h2, h3, h4, a, b, ha, hb', hr⟩ := h
  exact ⟨h1, h2, h3, h4, a, b, ha.below hb, hb'.below hb, hr⟩
theorem Rw.alloc {w : World} {v : Rv} {r : Rat} {p : Nat} (h : Rw w v r p) (o : Obj) : Rw (w.alloc o) v r p := h.below ((Below.refl _ _).alloc (Nat.le_refl _) o)
theorem Rw.more {w : World} {v : Rv} {r : Rat} {p q : Nat} (h : Rw w v r p) (hq : p ≤ q) : Rw w v r q := by
  obtain ⟨h1, h2, h3, h4, rest⟩ := h
  exact ⟨h1, h2, by omega, by omega, rest⟩
/-- How great a rational's parts are, at the most. -/
structure Sz (r : Rat) (p : Nat) : Prop where
  num : Bd r.num.natAbs p
  den : Bd r.den p
theorem Rt.rw {w : World} {lo : Nat} {v : Rv} {r : Rat} {p : Nat} (h : Rt w lo v r) (hz : Sz r p) : Rw w v r p := by
  refine ⟨h.3, h.6, by rw [h.2]; exact hz.num.len, by rw [h.5]; exact hz.den.len, _, _, h.4.lower (Nat.zero_le _), h.7.lower (Nat.zero_le _), ?_⟩
  rw [val_lim, val_lim, h.1]; exact rn_self r
theorem Rw.sz {w : World} {v : Rv} {r : Rat} {p : Nat} (h : Rw w v r p) (hp : 0 < p) : Sz r p := by
  obtain ⟨h1, h2, h3, h4, a, b, ha, hb', hr⟩ := h
  exact ⟨Bd.num hr (ha.bd h3), Bd.den hr (hb'.bd h4) hp⟩

theorem nbits_zero {x : Nat} (h : x = 0) : nbits x = 0 := by subst h; unfold nbits; rw [lim_zero]; rfl
theorem nbits_pos {x : Nat} (h : x ≠ 0) : 0 < nbits x := by
  unfold nbits
  have hl : (lim x).length ≠ 0 := by rw [lim_pos h]; simp
  rw [if_neg hl]
  have ht := lim_tr x
  unfold Tr at ht
  have h1 : dg (lim x) ((lim x).length - 1) ≠ 0 := by
    rcases ht with h | h
    · exact absurd h hl
    · exact h
  have h2 : ∀ y : Nat, y ≠ 0 → 0 < Lib.bitLen y := by
    intro y hy
    unfold Lib.bitLen
    show 0 < (if y = 0 then 0 else 1 + Lib.bitLenAux 63 (y / 2))
    rw [if_neg hy]; omega
  have := h2 _ h1
  omega

/-- A block that holds a struct of three cells. -/
def C3 (w : World) (b : Nat) (x y z : Value) : Prop := w.heap[b]? = some (.cells #[x, y, z] 24 (0, 0))
theorem C3.lt {w : World} {b : Nat} {x y z : Value} (h : C3 w b x y z) : b < w.heap.size := by
  rcases Nat.lt_or_ge b w.heap.size with h1 | h1
  · exact h1
  · have : w.heap[b]? = none := Array.getElem?_eq_none h1
    rw [C3, this] at h; cases h
theorem C3.below {w w' : World} {b : Nat} {x y z : Value} (h : C3 w b x y z) (hb : Below w.heap.size w w') : C3 w' b x y z := (hb.block b h.lt).trans h
theorem C3.at {w w' : World} {B b : Nat} {x y z : Value} (h : C3 w b x y z) (hb : Below B w w') (hB : b < B) : C3 w' b x y z := (hb.block b hB).trans h
theorem C3.new (w : World) (x y z : Value) : C3 (w.alloc (.cells #[x, y, z] 24)) w.heap.size x y z := heap_alloc_new w _
theorem C3.alloc {w : World} {b : Nat} {x y z : Value} (h : C3 w b x y z) (o : Obj) : C3 (w.alloc o) b x y z := h.below ((Below.refl _ _).alloc (Nat.le_refl _) o)
theorem C3.facts {w : World} {b : Nat} {x y z : Value} (h : C3 w b x y z) :
    w.cell? ⟨b, 0, none⟩ = some x ∧ w.cell? ⟨b, 1, none⟩ = some y ∧ w.cell? ⟨b, 2, none⟩ = some z ∧ w.frozen? ⟨b, 0, none⟩ = false ∧ w.frozen? ⟨b, 1, none⟩ = false ∧ w.frozen? ⟨b, 2, none⟩ = false := by
  have h' : w.heap[b]? = some (.cells #[x, y, z] 24 (0, 0)) := h
  refine ⟨?_, ?_, ?_, ?_, ?_, ?_⟩ <;> simp [World.cell?, World.frozen?, h']

/-- The struct at a block, written anew. -/
abbrev put3 (w : World) (b : Nat) (x y z : Value) : World := ((w.setCell ⟨b, 0, none⟩ x).setCell ⟨b, 1, none⟩ y).setCell ⟨b, 2, none⟩ z
theorem C3.set0 {w : World} {b : Nat} {p q r : Value} (h : C3 w b p q r) (x : Value) : C3 (w.setCell ⟨b, 0, none⟩ x) b x q r := by
  have h' : w.heap[b]? = some (.cells #[p, q, r] 24 (0, 0)) := h
  show (w.heap.modify b _)[b]? = _
  rw [Array.getElem?_modify, if_pos rfl, h']; rfl
theorem C3.set1 {w : World} {b : Nat} {p q r : Value} (h : C3 w b p q r) (x : Value) : C3 (w.setCell ⟨b, 1, none⟩ x) b p x r := by
  have h' : w.heap[b]? = some (.cells #[p, q, r] 24 (0, 0)) := h
  show (w.heap.modify b _)[b]? = _
  rw [Array.getElem?_modify, if_pos rfl, h']; rfl
theorem C3.set2 {w : World} {b : Nat} {p q r : Value} (h : C3 w b p q r) (x : Value) : C3 (w.setCell ⟨b, 2, none⟩ x) b p q x := by
  have h' : w.heap[b]? = some (.cells #[p, q, r] 24 (0, 0)) := h
  show (w.heap.modify b _)[b]? = _
  rw [Array.getElem?_modify, if_pos rfl, h']; rfl
theorem C3.put {w : World} {b : Nat} {p q r : Value} (h : C3 w b p q r) (x y z : Value) : C3 (put3 w b x y z) b x y z := ((h.set0 x).set1 y).set2 z
theorem put3_below {w : World} {b B : Nat} (hB : B ≤ b) (x y z : Value) : Below B w (put3 w b x y z) := by
  have h1 : ∀ (w : World) (j : Nat) (x : Value), Below B w (w.setCell ⟨b, j, none⟩ x) := fun w j x => (Below.refl B w).setCell (by simpa using hB) x
  exact ((h1 _ _ _).trans (h1 _ _ _)).trans (h1 _ _ _)
theorem C3.setOther {w : World} {b b' : Nat} {x' y' z' : Value} (h : C3 w b' x' y' z') (hne : b' ≠ b) (j : Nat) (x : Value) : C3 (w.setCell ⟨b, j, none⟩ x) b' x' y' z' := by
  have h' : w.heap[b']? = some (.cells #[x', y', z'] 24 (0, 0)) := h
  show (w.heap.modify b _)[b']? = _
  rw [Array.getElem?_modify, if_neg (Ne.symm hne), h']
theorem C3.putOther {w : World} {b b' : Nat} {x' y' z' : Value} (h : C3 w b' x' y' z') (hne : b' ≠ b) (x y z : Value) : C3 (put3 w b x y z) b' x' y' z' :=
  ((h.setOther hne _ _).setOther hne _ _).setOther hne _ _
theorem Row.put {w : World} {lo n b : Nat} {A : Option Addr} {l : List Nat} (h : Row w lo A n l) (hb : b < lo) (x y z : Value) : Row (put3 w b x y z) lo A n l := by
  have h1 : ∀ (w : World) (j : Nat) (x : Value), Row w lo A n l → Row (w.setCell ⟨b, j, none⟩ x) lo A n l := by
    intro w j x h
    refine ⟨h.len, h.l32, fun hn => ?_⟩
    obtain ⟨b', off, e, h1, h2, hc⟩ := h.mem hn
    refine ⟨b', off, e, h1, by simpa using h2, fun j' hj => ?_⟩
    rw [World.cell?_setCell_other w _ _ x (by intro e; injection e; omega)]
    exact hc j' hj
  exact h1 _ _ _ (h1 _ _ _ (h1 _ _ _ h))
theorem Rt.put {w : World} {lo b : Nat} {v : Rv} {r : Rat} (h : Rt w lo v r) (hb : b < lo) (x y z : Value) : Rt (put3 w b x y z) lo v r :=
  ⟨h.1, h.2, h.3, h.4.put hb x y z, h.5, h.6, h.7.put hb x y z⟩
theorem Row.apart {w : World} {lo n b : Nat} {A : Option Addr} {l : List Nat} (h : Row w lo A n l) {v : Rv} (k : C3 w b (.bool v.s) (.slice v.A v.n v.c) (.slice v.B v.m v.d)) (hn : 0 < n) : ∃ b' off, A = some ⟨b', off, none⟩ ∧ b' ≠ b := by
  obtain ⟨b', off, e, h1, h2, hc⟩ := h.mem hn
  refine ⟨b', off, e, fun hbb => ?_⟩
  subst hbb
  have h' : w.heap[b']? = some (.cells #[.bool v.s, .slice v.A v.n v.c, .slice v.B v.m v.d] 24 (0, 0)) := k
  have h0 := hc 0 hn
  rw [Nat.add_zero] at h0
  rcases Nat.lt_or_ge off 3 with h3 | h3
  · have : off = 0 ∨ off = 1 ∨ off = 2 := by omega
    rcases this with rfl | rfl | rfl <;> simp [World.cell?, h'] at h0
  · have hn : (#[Value.bool v.s, .slice v.A v.n v.c, .slice v.B v.m v.d] : Array Value)[off]? = none := Array.getElem?_eq_none (by simpa using h3)
    simp [World.cell?, h', hn] at h0
theorem Row.putC {w : World} {lo n b : Nat} {A : Option Addr} {l : List Nat} (h : Row w lo A n l) {v : Rv} (k : C3 w b (.bool v.s) (.slice v.A v.n v.c) (.slice v.B v.m v.d)) (x y z : Value) : Row (put3 w b x y z) lo A n l := by
  by_cases hn : 0 < n
  · obtain ⟨b', off, e, hne⟩ := h.apart k hn
    have hs : ∀ ad, A = some ad → ad.block ≠ b := by intro ad ea; rw [e] at ea; injection ea with ea; subst ea; exact hne
    exact ((h.set _ hs).set _ hs).set _ hs
  · have h0 : n = 0 := by omega
    subst h0
    exact ⟨h.len, h.l32, fun h => absurd h (by omega)⟩
theorem Rw.putC {w : World} {b p : Nat} {r : Rat} {u : Rv} (h : Rw w u r p) {v : Rv} (k : C3 w b (.bool v.s) (.slice v.A v.n v.c) (.slice v.B v.m v.d)) (x y z : Value) : Rw (put3 w b x y z) u r p := by
  obtain ⟨h1, h2, h3, h4, a, b', ha, hb', hr⟩ := h
  exact ⟨h1, h2, h3, h4, a, b', ha.putC k x y z, hb'.putC k x y z, hr⟩
theorem Rt.putC {w : World} {lo b : Nat} {r : Rat} {u : Rv} (h : Rt w lo u r) {v : Rv} (k : C3 w b (.bool v.s) (.slice v.A v.n v.c) (.slice v.B v.m v.d)) (x y z : Value) : Rt (put3 w b x y z) lo u r :=
  ⟨h.1, h.2, h.3, h.4.putC k x y z, h.5, h.6, h.7.putC k x y z⟩
theorem ret3c {fn : Func} {t : Tmp} {R : Ending → World → Prop} {a : Act} {w : World} {b : Nat} {x y z : Value} (hres : fn.results = #[.cell t 24]) (ht : a.tmps.getD t undef = .pointer (some ⟨b, 0, none⟩)) (hd : a.defers = [])
    (hk : C3 w b x y z) (hR : R (.returned (.agg #[x, y, z])) w) : bodyPost Try.prog fn R .ret a w := by
  obtain ⟨q0, q1, q2, g0, g1, g2⟩ := hk.facts
  have ht' : (a.tmps[t]?.getD undef) = .pointer (some ⟨b, 0, none⟩) := by simpa using ht
  refine bodyPost_ret (v := .agg #[x, y, z]) ?_ hd hR
  simp [results, hres, go_sem, ht', q0, q1, q2]
theorem ret3 {fn : Func} {t : Tmp} {R : Ending → World → Prop} {a : Act} {w : World} {b : Nat} {p q r x y z : Value} (hres : fn.results = #[.cell t 24]) (ht : a.tmps.getD t undef = .pointer (some ⟨b, 0, none⟩)) (hd : a.defers = [])
    (hk : C3 w b p q r) (hR : R (.returned (.agg #[x, y, z])) (put3 w b x y z)) : bodyPost Try.prog fn R .ret a (put3 w b x y z) := ret3c hres ht hd (hk.put x y z) hR

set_option maxHeartbeats 400000 in
theorem isNought_yes (A : Option Addr) (n c : Nat) (a : List Nat) (w : World) (hn : n ≤ 100000) (hcn : n ≤ c) (ha : Row w 0 A n a) (h : val a = 0) :
    Calls Try.prog 30 #[.slice A n c] w fun e w' => e = .returned (.bool true) ∧ w = w' := by
  have hz := nbits_zero h
  go_enter Try.func30, Try.ntmps30
  go_wp2_with fail
  refine (Bits_any A n c a _ hn hcn ha).mono ?_
  rintro e w' ⟨rfl, rfl⟩
  rw [hz]
  go_wp2
  go_ret
  exact ⟨rfl, rfl⟩
set_option maxHeartbeats 400000 in
theorem isNought_no (A : Option Addr) (n c : Nat) (a : List Nat) (w : World) (hn : n ≤ 100000) (hcn : n ≤ c) (ha : Row w 0 A n a) (h : val a ≠ 0) :
    Calls Try.prog 30 #[.slice A n c] w fun e w' => e = .returned (.bool false) ∧ w = w' := by
  have hz := nbits_pos h
  go_enter Try.func30, Try.ntmps30
  go_wp2_with fail
  refine (Bits_any A n c a _ hn hcn ha).mono ?_
  rintro e w' ⟨rfl, rfl⟩
  have hb : ((nbits (val a) : Nat) : Int) ≠ 0 := by omega
  have hb2 : (((nbits (val a) : Nat) : Int) == 0) = false := by rw [beq_eq_false_iff_ne]; exact hb
  go_wp2
  go_ret
  exact ⟨rfl, rfl⟩

set_option maxHeartbeats 400000 in
theorem one_any (w : World) :
    Calls Try.prog 32 #[] w fun e w' => ∃ A c, e = .returned (.slice A (lim 1).length c) ∧ Own w' w.heap.size A c (lim 1).length (lim 1) ∧ Below w.heap.size w w' := by
  go_enter Try.func32, Try.ntmps32
  go_wp2_with fail
  refine (Of_any 1 _ (by omega)).mono ?_
  rintro e w' ⟨A, c, rfl, ho, hb⟩
  go_wp2
  go_ret
  exact ⟨A, c, rfl, ho, hb⟩

theorem Rt.nought {w : World} {lo : Nat} {A : Option Addr} {c : Nat} (ho : Row w lo A (lim 1).length (lim 1)) (hc : (lim 1).length ≤ c) : Rt w lo ⟨false, none, 0, 0, A, (lim 1).length, c⟩ 0 :=
  ⟨rfl, by rw [show (0 : Rat).num.natAbs = 0 from rfl, lim_zero]; rfl, Nat.le_refl _, by rw [show (0 : Rat).num.natAbs = 0 from rfl, lim_zero]; exact Row.nil_ _ _ _, rfl, hc, ho⟩

set_option maxHeartbeats 400000 in
theorem nought_any (w : World) :
    Calls Try.prog 20 #[] w fun e w' => ∃ v : Rv, e = .returned (.agg #[.bool v.s, .slice v.A v.n v.c, .slice v.B v.m v.d]) ∧ Rt w' w.heap.size v 0 ∧ Below w.heap.size w w' := by
  go_enter Try.func20, Try.ntmps20
  go_wp2_with fail
  refine (one_any _).mono ?_
  rintro e w' ⟨A, c, rfl, ho, hb⟩
  have hb0 := (((Below.refl w.heap.size w).alloc (Nat.le_refl _) _).trans (hb.mono (by simp)))
  have hr := ho.row
  have hcc := ho.capLe
  have k := (C3.new w (.bool false) (.slice none 0 0) (.slice none 0 0)).at hb (by simp)
  clear ho hb
  obtain ⟨q0, q1, q2, g0, g1, g2⟩ := k.facts
  go_wp2
  refine ret3 (fn := Try.f20) Try.results20 rfl rfl k ?_
  exact ⟨⟨_, _, _, _, _, _, _⟩, rfl, (Rt.nought (hr.put (by simp) _ _ _) hcc).lower (by simp), hb0.trans (put3_below (Nat.le_refl _) _ _ _)⟩
end Go.Proofs.Ytgfajmnmeggaeaa
