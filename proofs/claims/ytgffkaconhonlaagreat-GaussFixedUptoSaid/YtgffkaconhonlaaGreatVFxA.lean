/-
  GaussFixed's mathematics: what is not told takes all values.
  Sums of one denominator each, by their weight; a sum of one term that a law makes; what follows of a variable that is told or not.
-/
import Derived.Test.YtgffkaconhonlaaGreatVEch
import Derived.Test.YtgffkaconhonlaaGreatVKnG
import Derived.Test.YtgffkaconhonlaaGreatVSpc
import Derived.Test.YtgffkaconhonlaaGreatVGsK
namespace Go.Proofs.YtgffkaconhonlaaGreat
set_option maxRecDepth 20000
theorem dot_line (n : Nat) (f x y : Nat → Rat) (s : Rat) : dot n f (fun i => x i + s * (y i - x i)) = dot n f x + s * (dot n f y - dot n f x) := by
 rw [dot_diff n f (fun i => x i + s * (y i - x i)) x]
 have e1 : sm (fun i => f i * (x i + s * (y i - x i) - x i)) n = s * sm (fun i => f i * (y i - x i)) n := by
  rw [← sm_mul]
  refine sm_congr fun i _ => ?_
  grind
 have e2 : dot n f y - dot n f x = sm (fun i => f i * (y i - x i)) n := by
  rw [dot_diff n f y x]
  grind
 rw [e1, e2]
theorem sat_line {n : Nat} {S : List (Nat → Rat)} {x y : Nat → Rat} (hx : Sat n S x) (hy : Sat n S y) (s : Rat) : Sat n S (fun i => x i + s * (y i - x i)) := fun f hf => by
 rw [dot_line, hx f hf, hy f hf]
 grind
theorem takes_all {n v : Nat} {S : List (Nat → Rat)} {x : Nat → Rat} (hx : Sat n S x) (hno : ¬ ∃ t, ∀ y, Sat n S y → y v = t) (a : Rat) : ∃ y, Sat n S y ∧ y v = a := by
 have h1 : ∃ y, Sat n S y ∧ y v ≠ x v := Classical.byContradiction fun hc => hno ⟨x v, fun y hy => Classical.byContradiction fun h => hc ⟨y, hy, h⟩⟩
 obtain ⟨y, hy, hne⟩ := h1
 have hd : y v - x v ≠ 0 := fun e => hne (by grind)
 refine ⟨fun i => x i + (a - x v) / (y v - x v) * (y i - x i), sat_line hx hy _, ?_⟩
 show x v + (a - x v) / (y v - x v) * (y v - x v) = a
 rw [div_mul' hd]
 grind
theorem fixed_math {n v : Nat} {S : List (Nat → Rat)} {b : Bool} {q : Rat} (hc : ∃ x, Sat n S x) (h1 : b = true → ∀ x, Sat n S x → x v = q) (h2 : b = false → ¬ ∃ t, ∀ x, Sat n S x → x v = t) :
  ((∀ y, Sat n S y → y v + -q = 0) ↔ b = true) ∧ ((∃ y, Sat n S y ∧ y v + (-q + 1) = 0) ↔ b = false) := by
 obtain ⟨x, hx⟩ := hc
 cases b with
 |
  true =>
  have h := h1 rfl
  refine ⟨⟨fun _ => rfl, fun _ y hy => by rw [h y hy]; grind⟩, ⟨fun ⟨y, hy, e⟩ => ?_, fun e => (by cases e)⟩⟩
  exfalso
  rw [h y hy] at e
  have e2 : (1 : Rat) = 0 := by grind
  exact absurd e2 (by decide)
 |
  false =>
  have h := h2 rfl
  refine ⟨⟨fun g => absurd ⟨q, fun y hy => by have := g y hy; grind⟩ h, fun e => (by cases e)⟩, ⟨fun _ => rfl, fun _ => ?_⟩⟩
  obtain ⟨y, hy, e⟩ := takes_all hx h (q - 1)
  exact ⟨y, hy, by rw [e]; grind⟩
end Go.Proofs.YtgffkaconhonlaaGreat

namespace Go.Proofs.YtgffkaconhonlaaGreat
set_option maxRecDepth 20000
open Go.RowKit
theorem Rw.tgt {w : World} {v : Rv} {r : Rat} {p : Nat} (h : Rw w v r p) : Sz r (v.n + v.m + 1) :=
 Rw.sz (w := w) (v := v) ⟨h.1, h.2, by omega, by omega, h.rows⟩ (by omega)
theorem Fr.snoc {E s : Nat} {L : List (Int × Rat)} {k : Rat} {y : Int × Rat} (h : Fr (4294967296 ^ E) L k) (hq : Sz y.2 s) : Fr (4294967296 ^ (E + s)) (L ++ [y]) k := by
 obtain ⟨d, h1, h2, h3, h4⟩ := h
 have hden := Nat.le_of_lt hq.den
 rw [Nat.pow_add]
 refine ⟨d * y.2.den, Nat.mul_pos h1 y.2.den_pos, Nat.mul_le_mul h2 hden, fun x hx => ?_, fd_mul h4 hden⟩
 rcases List.mem_append.1 hx with hx | hx
 · exact fd_mul (h3 x hx) hden
 ·
  rw [List.mem_singleton.1 hx]
  refine ⟨y.2.num * (d : Int), ?_, ?_⟩
  ·
   rw [Int.natCast_mul, Rat.intCast_mul, Rat.mul_comm ((d : Int) : Rat), ← Rat.mul_assoc]
   show y.2 * dd y.2 * _ = _
   rw [mul_den, Rat.intCast_mul]
  · rw [Int.natAbs_mul, Int.natAbs_natCast, Nat.mul_comm]; exact Nat.mul_le_mul h2 (Nat.le_of_lt hq.num)
theorem fr_cost {w : World} {p n0 : Nat} {la : List Tv} {L : List (Int × Rat)} {k : Rat} (hk : Sz k n0) (hr : Rds w p la L) : ∀ i, i ≤ la.length → Fr (4294967296 ^ (n0 + costK la i)) (L.take i) k
 |
  0, _ => by
  rw [List.take_zero]
  exact (fr_init n0 k hk [] (fun y hy => by cases hy)).le (Nat.pow_le_pow_right (by omega) (by rw [List.length_nil]; omega))
 |
  i + 1, hi => by
  obtain ⟨x, X, hx, hX, _, hxr⟩ := hr.get i (by omega)
  have h1 := (fr_cost hk hr i (by omega)).snoc (y := X) hxr.tgt
  rw [List.take_add_one, hX]
  refine h1.le (Nat.pow_le_pow_right (by omega) ?_)
  rw [costK_succ hx]; omega
theorem Raw.kinF (N : Nat) {w : World} {v : Cv} {l : List Tv} (h : Raw w v l) (hc : cost v l ≤ 150) : ∃ x : Kin, x.v = v ∧ KinOf N 150 w x ∧ Fr (4294967296 ^ 150) x.L x.k := by
 have hl := h.fit.row.len
 obtain ⟨L, hL⟩ := rds_ex (p := 150) l fun x hx => by
  obtain ⟨i, hi, e⟩ := List.getElem_of_mem hx
  have := cost_get (v := v) hl (show l[i]? = some x by rw [List.getElem?_eq_getElem hi, e])
  exact ⟨h.t x hx, by omega, by omega⟩
 obtain ⟨k, hk⟩ := h.k.rw (p := 150) (by unfold cost at hc; omega) (by unfold cost at hc; omega)
 have hn : v.n ≤ 150 := by
  have := costK_len l v.n (by omega)
  unfold cost at hc; omega
 have hf := fr_cost hk.tgt hL l.length (Nat.le_refl _)
 rw [List.take_of_length_le (by rw [hL.len]; exact Nat.le_refl _)] at hf
 classical
 exact ⟨⟨v, L, k, decide (IsS w v l (N : Int))⟩, rfl, ⟨h.fit.cap, show v.n ≤ 1000 by omega, hk, l, h.fit.row, hL, decide_eq_true_iff⟩, hf.le (Nat.pow_le_pow_right (by omega) (by unfold cost at hc; rw [← hl] at hc; omega))⟩
theorem kin_listF (N : Nat) {w : World} : ∀ ps : List (Cv × List Tv), (∀ x ∈ ps, Raw w x.1 x.2 ∧ cost x.1 x.2 ≤ 150) → ∃ vs : List Kin, vs.map (·.v) = ps.map (·.1) ∧ ∀ x ∈ vs, KinOf N 150 w x ∧ Fr (4294967296 ^ 150) x.L x.k
 | [], _ => ⟨[], rfl, fun x hx => (by cases hx)⟩
 |
  p :: ps, h => by
  obtain ⟨x, hx, hk⟩ := (h p List.mem_cons_self).1.kinF N (h p List.mem_cons_self).2
  obtain ⟨vs, hv, hks⟩ := kin_listF N ps fun y hy => h y (List.mem_cons_of_mem _ hy)
  exact ⟨x :: vs, by rw [List.map_cons, List.map_cons, hx, hv], fun y hy => by
   rcases List.mem_cons.1 hy with rfl | hy
   · exact hk
   · exact hks y hy⟩
theorem kns_ofF (N : Nat) {w : World} {A : Option Addr} {m : Nat} {ps : List (Cv × List Tv)} (hk : Kons w A m (ps.map (·.1))) (hf : ∀ x ∈ ps, Raw w x.1 x.2) (hc : costA ps m ≤ 150) : m ≤ 75 ∧ ∃ vs : List Kin, Kns N 150 w A m vs ∧ ∀ x ∈ vs, Fr (4294967296 ^ 150) x.L x.k := by
 have hl : ps.length = m := by have := hk.len; rwa [List.length_map] at this
 have h2 := costA_len ps m (by omega)
 obtain ⟨vs, hv, hks⟩ := kin_listF N (w := w) ps fun x hx => by
  obtain ⟨i, hi, e⟩ := List.getElem_of_mem hx
  have := costA_get (show ps[i]? = some x by rw [List.getElem?_eq_getElem hi, e])
  rw [hl] at this
  exact ⟨hf x hx, by omega⟩
 exact ⟨by omega, vs, ⟨by rw [hv]; exact hk, fun x hx => (hks x hx).1⟩, fun x hx => (hks x hx).2⟩
def bgP (N : Nat) : Nat := bigX (4294967296 ^ 150) N
theorem bgP_bd (N : Nat) : Bd (bgP N) (151 * 2 ^ N) := by
 have h := bigX_bd (i := N) (E := 4294967296 ^ 150) (e := 151) (Nat.one_le_pow _ _ (by omega)) (by rw [show 151 = 150 + 1 from rfl, Nat.pow_succ _ 150, Nat.mul_comm]; exact Nat.mul_le_mul (Nat.le_refl _) (by omega))
 exact h.le (Nat.le_mul_of_pos_left _ (Nat.one_le_pow _ _ (by omega)))
theorem bgP_one (N : Nat) : 1 ≤ bgP N := bigX_pos (Nat.one_le_pow _ _ (by omega)) N
theorem bgP_e {N : Nat} (h : 1 ≤ N) : 4294967296 ^ 150 ≤ 2 * bgP N := by
 have h1 := bigX_le (E := 4294967296 ^ 150) (Nat.one_le_pow _ _ (by omega)) h
 have h2 : bigX (4294967296 ^ 150) 1 = 2 * (4294967296 ^ 150 * 1) * 1 := rfl
 unfold bgP
 generalize 4294967296 ^ 150 = E at *
 omega
theorem roomP {s N : Nat} (h8 : N ≤ 8) (hs : s ≤ 10000000) : RoomE s (2 * bgP N) (151 * 2 ^ N + 1) N := by
 have h1 : 2 ^ N ≤ 256 := Nat.pow_le_pow_right (n := 2) (by omega) h8
 have h3 := bgP_bd N
 refine ⟨by omega, hs, by have := bgP_one N; omega, ?_, ?_⟩
 ·
  rw [Nat.pow_succ]
  unfold Bd at h3
  generalize 4294967296 ^ (151 * 2 ^ N) = B at *
  omega
 ·
  generalize 2 ^ N = a at *
  have := Nat.mul_le_mul (show 151 * a + 1 ≤ 38657 by omega) h1
  omega
theorem room1F {N : Nat} (h8 : N ≤ 8) : RoomE 150 (4294967296 ^ 150) 151 N := by
 have h1 : 2 ^ N ≤ 256 := Nat.pow_le_pow_right (n := 2) (by omega) h8
 refine ⟨by omega, by omega, Nat.one_le_pow _ _ (by omega), ?_, by omega⟩
 rw [show 151 = 150 + 1 from rfl, Nat.pow_succ _ 150, Nat.mul_comm]; exact Nat.mul_le_mul (Nat.le_refl _) (by omega)
theorem fr_c {P : Nat} {v : Int} {q : Rat} (h1 : q.num.natAbs ≤ P) (h2 : q.den ≤ P) : Fr (2 * P) [(v, ((1 : Int) : Rat))] (-q) ∧ Fr (2 * P) [(v, ((1 : Int) : Rat))] (-q + ((1 : Int) : Rat)) := by
 have hq : q * ((q.den : Int) : Rat) = ((q.num : Int) : Rat) := mul_den q
 have hone : AllN (Fd q.den (2 * P)) [(v, ((1 : Int) : Rat))] := fun y hy => by
  rw [List.mem_singleton.1 hy]
  exact ⟨(q.den : Int), Rat.one_mul _, by rw [Int.natAbs_natCast]; omega⟩
 refine ⟨⟨q.den, q.den_pos, by omega, hone, -q.num, ?_, by rw [Int.natAbs_neg]; omega⟩, ⟨q.den, q.den_pos, by omega, hone, -q.num + (q.den : Int), ?_, by omega⟩⟩
 · rw [Rat.neg_mul, hq, Rat.intCast_neg]
 ·
  rw [Rat.add_mul, Rat.neg_mul, hq, Rat.intCast_add, Rat.intCast_neg]
  congr 1
  exact Rat.one_mul _
theorem sz_c {N : Nat} {q : Rat} (h8 : N ≤ 8) (h1 : q.num.natAbs ≤ bgP N) (h2 : q.den ≤ bgP N) : Sz (-q) 38657 ∧ Sz (-q + ((1 : Int) : Rat)) 38657 := by
 have h3 := (roomP (s := 0) h8 (by omega)).2.2.2.1
 have h4 : 2 ^ N ≤ 256 := Nat.pow_le_pow_right (n := 2) (by omega) h8
 have h5 : ∀ p, 151 * 2 ^ N + 1 ≤ p → Bd (2 * bgP N) p := fun p hp => by
  have h6 : 4294967296 ^ (151 * 2 ^ N + 1) ≤ 4294967296 ^ p := Nat.pow_le_pow_right (by omega) hp
  have := bgP_one N
  unfold Bd
  exact Nat.lt_of_lt_of_le (by omega) (Nat.le_trans h3 h6)
 replace h5 := h5 38657 (by omega)
 obtain ⟨g1, g2⟩ := fr_c (v := 0) h1 h2
 exact ⟨(g1.sz h5).2, (g2.sz h5).2⟩
structure One1 (w : World) (G : Nat) (v : Int) (z1 z3 : Rv) (k : Rat) : Prop where
 cells : w.heap[G]? = some (.cells #[.int .i64 v, .bool z1.s, .slice z1.A z1.n z1.c, .slice z1.B z1.m z1.d] 47 (0, 0))
 n1 : Rt w 0 z1 ((1 : Int) : Rat)
 n3 : Rt w 0 z3 k
section
variable {w w' W : World} {G Y : Nat} {v : Int} {z1 z3 : Rv} {k : Rat}
theorem One1.lt (h : One1 w G v z1 z3 k) : G < w.heap.size := (Array.getElem?_eq_some_iff.1 h.cells).1
theorem One1.below (h : One1 w G v z1 z3 k) (hb : Below w.heap.size w w') : One1 w' G v z1 z3 k :=
 ⟨(hb.block _ h.lt).trans h.cells, h.n1.below hb, h.n3.below hb⟩
theorem One1.put5z (h : One1 w G v z1 z3 k) (hk : C5 w Y (.int .i64 0) (.slice none 0 0) (.bool false) (.slice none 0 0) (.slice none 0 0)) (x0 x1 x2 x3 x4 : Value) : One1 (put5 w Y x0 x1 x2 x3 x4) G v z1 z3 k := by
 have hne : G ≠ Y := by
  intro e
  subst e
  have h1 : w.heap[G]? = some (.cells #[Value.int .i64 0, .slice none 0 0, .bool false, .slice none 0 0, .slice none 0 0] 28 (0, 0)) := hk
  have h2 := h1.symm.trans h.cells
  injection h2 with h2
  injection h2 with h2
  have := congrArg Array.size h2
  simp at this
 exact ⟨(put5_but _ _ _ _ _ _ _ G h.lt hne).trans h.cells, h.n1.put5z hk _ _ _ _ _, h.n3.put5z hk _ _ _ _ _⟩
structure OneC (W wx : World) (Y G : Nat) (v : Int) (z1 z3 : Rv) (k : Rat) : Prop where
 cell : C5 wx Y (.int .i64 0) (.slice (some ⟨G, 0, none⟩) 1 1) (.bool z3.s) (.slice z3.A z3.n z3.c) (.slice z3.B z3.m z3.d)
 below : Below W.heap.size W wx
 one : One1 wx G v z1 z3 k
theorem OneC.put (hk : C5 w Y (.int .i64 0) (.slice none 0 0) (.bool false) (.slice none 0 0) (.slice none 0 0)) (hY : W.heap.size ≤ Y) (hb : Below W.heap.size W w) (h : One1 w G v z1 z3 k) :
  OneC W (put5 w Y (.int .i64 0) (.slice (some ⟨G, 0, none⟩) 1 1) (.bool z3.s) (.slice z3.A z3.n z3.c) (.slice z3.B z3.m z3.d)) Y G v z1 z3 k :=
 ⟨hk.put _ _ _ _ _, hb.trans (put5_below hY _ _ _ _ _), h.put5z hk _ _ _ _ _⟩
theorem One1.kin {N s : Nat} (h : One1 w G v z1 z3 k) (h0 : 0 ≤ v) (hN : v < (N : Int)) (hk : Sz k s) (hs : 1 ≤ s) : KinOf N s w ⟨⟨0, some ⟨G, 0, none⟩, 1, 1, z3⟩, [(v, ((1 : Int) : Rat))], k, true⟩ := by
 have s1 : Sz ((1 : Int) : Rat) s := one_sz.more hs
 have n1 : z1.n ≠ 0 := fun e => int_ne (i := 1) (by omega) ((zero_nrm h.n1.nrm (h.n1.rw s1)).2 e)
 refine ⟨Nat.le_refl _, show 1 ≤ 1000 by omega, h.n3.rw hk, [⟨v, z1⟩], ⟨rfl, fun _ => ⟨G, 0, rfl, Nat.zero_le _, h.lt, fun i x hx => ?_⟩⟩, ⟨⟨rfl, h.n1.rw s1⟩, trivial⟩, ⟨fun _ => ⟨⟨by show (0 : Int) ≤ 0; omega, by show (0 : Int) ≤ 4; omega⟩, h.n3.nrm, fun j x hj hx => ?_⟩, fun _ => rfl⟩⟩
 ·
  have hi : i < 1 := (List.getElem?_eq_some_iff.1 hx).1
  have hG := h.cells
  obtain rfl : i = 0 := by omega
  injection hx with hx; subst hx
  constructor <;> simp [World.cell?, hG]
 ·
  have hj2 : j < 1 := hj
  obtain rfl : j = 0 := by omega
  injection hx with hx; subst hx
  exact ⟨h0, hN, fun y h0 => absurd h0 (Nat.lt_irrefl _), h.n1.nrm, n1⟩
end
theorem dot_one1 {N v : Nat} (hv : v < N) (k : Rat) (x : Nat → Rat) : dot N (fn N [((v : Int), ((1 : Int) : Rat))] k) x = x v + k := by
 unfold dot
 rw [fn_k]
 congr 1
 rw [sm_single (k := v) (fun i hi hne => ?_) hv]
 ·
  rw [fn_lt (by omega), co, co, if_pos rfl, Rat.add_zero]
  exact Rat.one_mul _
 · rw [fn_lt (by omega), co, co, if_neg (by omega), Rat.add_zero, Rat.zero_mul]
theorem fix_two {N v : Nat} {vs : List Kin} {b : Bool} {q : Rat} (hv : v < N) (hc : ∃ x, Sat N (sums N vs) x)
  (h1 : b = true → (∃ x, Sat N (sums N vs) x) ∧ 0 ≤ (v : Int) ∧ (v : Int) < (N : Int) ∧ ∀ x, Sat N (sums N vs) x → x (v : Int).toNat = q) (h2 : b = false → q = 0 ∧ ¬ ((∃ x, Sat N (sums N vs) x) ∧ 0 ≤ (v : Int) ∧ (v : Int) < (N : Int) ∧ ∃ t, ∀ x, Sat N (sums N vs) x → x (v : Int).toNat = t)) :
  (∀ b' (P : Prop), P → (b' = true ↔ (¬ ∃ x, Sat N (sums N vs) x) ∨ (P ∧ ∀ x, Sat N (sums N vs) x → dot N (fn N [((v : Int), ((1 : Int) : Rat))] (-q)) x = 0)) → b' = b) ∧
  (∀ (vd : Cv) b', (b' = true ↔ ∃ x, Sat N (sums N (vs ++ [⟨vd, [((v : Int), ((1 : Int) : Rat))], -q + ((1 : Int) : Rat), true⟩])) x) → b' = !b) := by
 have hm := fixed_math (n := N) (v := v) (S := sums N vs) (b := b) (q := q) hc (fun hb x hx => (h1 hb).2.2.2 x hx) (fun hb ht => (h2 hb).2 ⟨hc, by omega, by omega, ht⟩)
 refine ⟨fun b' P hP h => ?_, fun vd b' h => ?_⟩
 ·
  have e : b' = true ↔ b = true := by
   rw [h, ← hm.1]
   constructor
   ·
    rintro (g | ⟨_, g⟩)
    · exact absurd hc g
    · intro y hy; rw [← dot_one1 hv]; exact g y hy
   ·
    intro g
    exact .inr ⟨hP, fun y hy => by rw [dot_one1 hv]; exact g y hy⟩
  cases b <;> cases b' <;> simp_all
 ·
  have e : b' = true ↔ b = false := by
   rw [h, ← hm.2]
   constructor
   ·
    rintro ⟨y, hy⟩
    rw [sums_yes rfl] at hy
    refine ⟨y, fun f hf => hy f (List.mem_append_left _ hf), ?_⟩
    have := hy _ (List.mem_append_right _ (List.mem_singleton.2 rfl))
    rw [dot_one1 hv] at this
    exact this
   ·
    rintro ⟨y, hy, e⟩
    refine ⟨y, fun f hf => ?_⟩
    rw [sums_yes rfl] at hf
    rcases List.mem_append.1 hf with hf | hf
    · exact hy f hf
    · rw [List.mem_singleton.1 hf, dot_one1 hv]; exact e
  cases b <;> cases b' <;> simp_all
end Go.Proofs.YtgffkaconhonlaaGreat
