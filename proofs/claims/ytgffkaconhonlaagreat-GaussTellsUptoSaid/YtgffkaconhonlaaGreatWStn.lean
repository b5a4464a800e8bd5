/-
  Sums as lists of terms, no program: the number of a variable, one sum less so often another, what goes into all numbers, how great the numbers get.
  How great the numbers of an elimination may be.
  Stairs as lists of terms, no program: what goes into all numbers of a sum, rows by their first variable, how far numbers grow when rows are taken.
  One denominator for all rows of an elimination: how great it becomes.
-/
import Derived.Test.YtgffkaconhonlaaGreatWEch
import Derived.Test.YtgffkaconhonlaaGreatWMAa
import Derived.Test.YtgffkaconhonlaaGreatWMRb
namespace Go.Proofs.YtgffkaconhonlaaGreat
set_option maxRecDepth 20000
set_option linter.unusedVariables false
def co : List (Int × Rat) → Int → Rat
 | [], _ => 0
 | (v, q) :: l, j => (if v = j then q else 0) + co l j
theorem co_append (j : Int) : ∀ l m : List (Int × Rat), co (l ++ m) j = co l j + co m j
 | [], m => by rw [List.nil_append, co, Rat.zero_add]
 | (v, q) :: l, m => by rw [List.cons_append, co, co, co_append j l m, Rat.add_assoc]
theorem co_lay (v : Int) (q : Rat) (j : Int) : co (lay1 v q) j = if v = j then q else 0 := by
 unfold lay1
 split
 · next h => rw [co, h]; split <;> rfl
 · rw [co, co, Rat.add_zero]
theorem co_add (j : Int) : ∀ (n : Nat) (a b : List (Int × Rat)), a.length + b.length ≤ n → co (addL a b) j = co a j + co b j := by
 intro n
 induction n with
 |
  zero =>
  intro a b hn
  have ha : a = [] := List.eq_nil_of_length_eq_zero (by omega)
  have hb : b = [] := List.eq_nil_of_length_eq_zero (by omega)
  subst ha hb; rw [addL, co, Rat.add_zero]
 |
  succ n ih =>
  intro a b hn
  match a, b with
  | [], [] => rw [addL, co, Rat.add_zero]
  |
   (v, p) :: a, [] => 
   rw [addL, co_append, co_lay, ih a [] (by simp at hn ⊢; omega)]
   show (if v = j then p else 0) + (co a j + 0) = (if v = j then p else 0) + co a j + 0
   rw [Rat.add_zero, Rat.add_zero]
  |
   [], (u, q) :: b => 
   rw [addL, co_append, co_lay, ih [] b (by simp at hn ⊢; omega)]
   show (if u = j then q else 0) + (0 + co b j) = 0 + ((if u = j then q else 0) + co b j)
   rw [Rat.zero_add, Rat.zero_add]
  |
   (v, p) :: a, (u, q) :: b =>
   simp only [List.length_cons] at hn
   rw [addL]
   split
   ·
    rw [co_append, co_lay, ih a _ (by simp; omega)]
    show (if v = j then p else 0) + (co a j + co ((u, q) :: b) j) = (if v = j then p else 0) + co a j + co ((u, q) :: b) j
    rw [Rat.add_assoc]
   ·
    split
    ·
     rw [co_append, co_lay, ih _ b (by simp; omega)]
     show (if u = j then q else 0) + (co ((v, p) :: a) j + co b j) = co ((v, p) :: a) j + ((if u = j then q else 0) + co b j)
     rw [← Rat.add_assoc, Rat.add_comm _ (co ((v, p) :: a) j), Rat.add_assoc]
    ·
     have e : v = u := by omega
     subst e
     rw [co_append, co_lay, ih a b (by omega), co, co, add4]
     congr 1
     split
     · rfl
     · rw [Rat.add_zero]
theorem co_scale (k : Rat) (j : Int) : ∀ l : List (Int × Rat), co (scaleL k l) j = co l j * k
 | [] => by rw [scaleL, co, Rat.zero_mul]
 |
  (v, q) :: l => by
  rw [scaleL, co_append, co_lay, co, co_scale k j l, Rat.add_mul]
  congr 1
  split
  · rfl
  · rw [Rat.zero_mul]
def Asc (N : Int) : Int → List (Int × Rat) → Prop
 | _, [] => True
 | lo, (v, q) :: l => lo ≤ v ∧ v < N ∧ q ≠ 0 ∧ Asc N (v + 1) l
theorem Asc.mono {N lo lo' : Int} {l : List (Int × Rat)} (h : Asc N lo l) (hl : lo' ≤ lo) : Asc N lo' l := by
 cases l with
 | nil => trivial
 | cons x l => obtain ⟨v, q⟩ := x; exact ⟨by have := h.1; omega, h.2⟩
theorem Asc.more {N N' : Int} (hN : N ≤ N') : ∀ {lo : Int} {l : List (Int × Rat)}, Asc N lo l → Asc N' lo l
 | _, [], _ => trivial
 | _, (_, _) :: _, h => ⟨h.1, by have := h.2.1; omega, h.2.2.1, h.2.2.2.more hN⟩
theorem Asc.lay {N lo v : Int} {q : Rat} {l : List (Int × Rat)} (h1 : lo ≤ v) (h2 : v < N) (h : Asc N (v + 1) l) : Asc N lo (lay1 v q ++ l) := by
 unfold lay1
 split
 · exact h.mono (by omega)
 · next hq => exact ⟨h1, h2, hq, h⟩
theorem Asc.add {N : Int} : ∀ (n : Nat) (lo : Int) (a b : List (Int × Rat)), a.length + b.length ≤ n → Asc N lo a → Asc N lo b → Asc N lo (addL a b) := by
 intro n
 induction n with
 |
  zero =>
  intro lo a b hn _ _
  have ha : a = [] := List.eq_nil_of_length_eq_zero (by omega)
  have hb : b = [] := List.eq_nil_of_length_eq_zero (by omega)
  subst ha hb; rw [addL]; trivial
 |
  succ n ih =>
  intro lo a b hn ha hb
  match a, b with
  | [], [] => rw [addL]; trivial
  | (v, p) :: a, [] => rw [addL]; exact Asc.lay ha.1 ha.2.1 (ih _ a [] (by simp at hn ⊢; omega) ha.2.2.2 trivial)
  | [], (u, q) :: b => rw [addL]; exact Asc.lay hb.1 hb.2.1 (ih _ [] b (by simp at hn ⊢; omega) trivial hb.2.2.2)
  |
   (v, p) :: a, (u, q) :: b =>
   simp only [List.length_cons] at hn
   rw [addL]
   split
   · next h => exact Asc.lay ha.1 ha.2.1 (ih _ a _ (by simp; omega) ha.2.2.2 ⟨by omega, hb.2⟩)
   ·
    split
    · next h => exact Asc.lay hb.1 hb.2.1 (ih _ _ b (by simp; omega) ⟨by omega, ha.2⟩ hb.2.2.2)
    ·
     have e : v = u := by omega
     subst e
     exact Asc.lay ha.1 ha.2.1 (ih _ a b (by omega) ha.2.2.2 hb.2.2.2)
theorem Asc.scale {N : Int} (k : Rat) : ∀ {lo : Int} {l : List (Int × Rat)}, Asc N lo l → Asc N lo (scaleL k l)
 | _, [], _ => trivial
 | _, (_, _) :: _, h => Asc.lay h.1 h.2.1 (h.2.2.2.scale k)
theorem Asc.zero {N : Int} : ∀ {lo : Int} {l : List (Int × Rat)} {j : Int}, Asc N lo l → j < lo → co l j = 0
 | _, [], _, _, _ => rfl
 |
  _, (v, q) :: l, j, h, hj => by
  have := h.1
  rw [co, if_neg (by omega), h.2.2.2.zero (by omega), Rat.add_zero]
theorem Asc.top {N : Int} : ∀ {lo : Int} {l : List (Int × Rat)} {j : Int}, Asc N lo l → N ≤ j → co l j = 0
 | _, [], _, _, _ => rfl
 |
  _, (v, q) :: l, j, h, hj => by
  have := h.2.1
  rw [co, if_neg (by omega), h.2.2.2.top hj, Rat.add_zero]
theorem Asc.len {N : Int} : ∀ {lo : Int} {l : List (Int × Rat)}, Asc N lo l → lo ≤ N → lo + l.length ≤ N
 | _, [], _, h => by simpa using h
 |
  _, (v, q) :: l, h, _ => by
  have h1 := h.1
  have h2 := h.2.1
  have h3 := h.2.2.2.len (by omega)
  simp only [List.length_cons]; omega
theorem Asc.nz {N : Int} : ∀ {lo : Int} {l : List (Int × Rat)}, Asc N lo l → ∀ y ∈ l, lo ≤ y.1 ∧ y.1 < N ∧ y.2 ≠ 0
 | _, [], _, y, hy => by cases hy
 |
  _, (v, q) :: l, h, y, hy => by
  rcases List.mem_cons.1 hy with rfl | hy
  · exact ⟨h.1, h.2.1, h.2.2.1⟩
  ·
   have h1 := h.1
   have := h.2.2.2.nz y hy
   exact ⟨by omega, this.2⟩
def fn (n : Nat) (L : List (Int × Rat)) (k : Rat) : Nat → Rat := fun j => if j = n then k else co L (j : Int)
theorem fn_k (n : Nat) (L : List (Int × Rat)) (k : Rat) : fn n L k n = k := if_pos rfl
theorem fn_lt {n j : Nat} {L : List (Int × Rat)} {k : Rat} (h : j < n) : fn n L k j = co L (j : Int) := if_neg (by omega)
theorem fn_nil (n : Nat) (k : Rat) : lead n (fn n [] k) = n := lead_all.2 fun j hj => by rw [fn_lt hj]; rfl
theorem fn_lead {n : Nat} {v : Int} {q k : Rat} {l : List (Int × Rat)} (h : Asc (n : Int) 0 ((v, q) :: l)) : ((lead n (fn n ((v, q) :: l) k) : Nat) : Int) = v := by
 obtain ⟨j, rfl⟩ := Int.eq_ofNat_of_zero_le h.1
 have h2 := h.2.1
 have e : lead n (fn n (((j : Int), q) :: l) k) = j := by
  refine lead_of (n := n) (k := j) (by omega) (fun i hi => ?_) ?_
  · rw [fn_lt (by omega), co, if_neg (by omega), h.2.2.2.zero (by omega), Rat.add_zero]
  · rw [fn_lt (by omega), co, if_pos rfl, h.2.2.2.zero (by omega), Rat.add_zero]; exact h.2.2.1
 rw [e]
theorem fn_lift {n : Nat} {L : List (Int × Rat)} {k : Rat} (h : Asc (n : Int) 0 L) (j : Nat) (hj : j ≤ n + 1) : fn (n + 1) L k j = lift n (fn n L k) j := by
 rcases Nat.lt_trichotomy j n with h1 | h1 | h1
 · rw [lift_lt h1, fn_lt h1, fn_lt (by omega)]
 · subst h1; rw [lift_n, fn_lt (by omega), h.top (Int.le_refl _)]
 ·
  obtain rfl : j = n + 1 := by omega
  rw [lift_k, fn_k, fn_k]
def dd (r : Rat) : Rat := ((r.den : Int) : Rat)
def nn (r : Rat) : Rat := ((-r.num : Int) : Rat)
theorem mul_den (y : Rat) : y * dd y = ((y.num : Int) : Rat) := by
 have h : mkRat y.num y.den = y := Rat.mkRat_self y
 rw [Rat.mkRat_eq_div] at h
 have h0 : ((y.den : Nat) : Rat) ≠ 0 := fun e => y.den_nz (Rat.natCast_eq_zero_iff.1 e)
 unfold dd
 rw [Rat.intCast_natCast]
 calc y * ((y.den : Nat) : Rat) = ((y.num : Int) : Rat) / ((y.den : Nat) : Rat) * ((y.den : Nat) : Rat) := by rw [h]
  _ = _ := Rat.div_mul_cancel h0
theorem dd_ne (r : Rat) : dd r ≠ 0 := fun e => r.den_nz (by have := Rat.intCast_eq_zero_iff.1 e; omega)
theorem nn_eq (r : Rat) : nn r = -(r * dd r) := by rw [mul_den]; unfold nn; rw [Rat.intCast_neg]
def lsL (r : Rat) (L M : List (Int × Rat)) : List (Int × Rat) := addL (scaleL (dd r) L) (scaleL (nn r) M)
def lsK (r k m : Rat) : Rat := k * dd r + m * nn r
theorem fn_ls (n : Nat) (r : Rat) (L M : List (Int × Rat)) (k m : Rat) (j : Nat) : fn n (lsL r L M) (lsK r k m) j = fn n L k j * dd r + fn n M m j * nn r := by
 unfold fn
 split
 · rfl
 ·
  unfold lsL
  rw [co_add _ _ _ _ (Nat.le_refl _), co_scale, co_scale]
theorem ls_asc {N lo lo' v : Int} {q p : Rat} {L M : List (Int × Rat)} (hL : Asc N lo ((v, q) :: L)) (hM : Asc N lo' ((v, p) :: M)) : Asc N (v + 1) (lsL (q / p) ((v, q) :: L) ((v, p) :: M)) := by
 have hp := hM.2.2.1
 have hq := hL.2.2.1
 have e1 : q * dd (q / p) + p * nn (q / p) = 0 := by
  rw [nn_eq, Rat.mul_neg, ← Rat.mul_assoc, Rat.mul_comm p, Rat.div_mul_cancel hp, Rat.add_neg_cancel]
 have h1 : q * dd (q / p) ≠ 0 := fun e => by
  rcases Rat.mul_eq_zero.1 e with h | h
  · exact hq h
  · exact dd_ne _ h
 have h2 : p * nn (q / p) ≠ 0 := fun e => h1 (by rw [e, Rat.add_zero] at e1; exact e1)
 unfold lsL
 rw [scaleL, scaleL]
 generalize q * dd (q / p) = x at *
 generalize p * nn (q / p) = y at *
 rw [lay1, if_neg h1, lay1, if_neg h2, List.singleton_append, List.singleton_append, addL, if_neg (Int.lt_irrefl v), if_neg (Int.lt_irrefl v), e1, lay1_zero, List.nil_append]
 exact Asc.add _ _ _ _ (Nat.le_refl _) (hL.2.2.2.scale _) (hM.2.2.2.scale _)
def Fd (d E : Nat) (y : Rat) : Prop := ∃ z : Int, y * ((d : Int) : Rat) = ((z : Int) : Rat) ∧ z.natAbs ≤ E
theorem Fd.le {d E F : Nat} {y : Rat} (h : Fd d E y) (hF : E ≤ F) : Fd d F y := by
 obtain ⟨z, h1, h2⟩ := h; exact ⟨z, h1, Nat.le_trans h2 hF⟩
theorem Fd.zero (d E : Nat) : Fd d E 0 := ⟨0, by rw [Rat.zero_mul]; rfl, Nat.zero_le _⟩
theorem frac {y : Rat} {d : Nat} {z : Int} (hd : 0 < d) (h : y * ((d : Int) : Rat) = ((z : Int) : Rat)) : ∃ m : Nat, m ≠ 0 ∧ z = y.num * (m : Int) ∧ d = y.den * m := by
 have h0 : ((d : Nat) : Rat) ≠ 0 := fun e => by have := Rat.natCast_eq_zero_iff.1 e; omega
 rw [Rat.intCast_natCast] at h
 have e : mkRat z d = y := by
  rw [Rat.mkRat_eq_div, ← h, Rat.div_def, Rat.mul_assoc, Rat.mul_inv_cancel _ h0, Rat.mul_one]
 obtain ⟨n', d', z', c⟩ := y
 exact Rat.mkRat_num_den (by omega) e
theorem Fd.sz {d E p : Nat} {y : Rat} (h : Fd d E y) (hd : 0 < d) (hE : d ≤ E) (hp : Bd E p) : Sz y p := by
 obtain ⟨z, h1, h2⟩ := h
 obtain ⟨m, hm, e1, e2⟩ := frac hd h1
 refine ⟨hp.le (Nat.le_trans ?_ h2), hp.le (Nat.le_trans ?_ hE)⟩
 · rw [e1, Int.natAbs_mul, Int.natAbs_natCast]; exact Nat.le_mul_of_pos_right _ (by omega)
 · rw [e2]; exact Nat.le_mul_of_pos_right _ (by omega)
theorem cast_ne {d : Nat} (h : 0 < d) : ((d : Int) : Rat) ≠ 0 := fun e => by have := Rat.intCast_eq_zero_iff.1 e; omega
theorem Fd.ne {d E : Nat} {y : Rat} {z : Int} (hd : 0 < d) (h : y * ((d : Int) : Rat) = ((z : Int) : Rat)) (hy : y ≠ 0) : z ≠ 0 := fun e => by
 rw [e] at h
 rcases Rat.mul_eq_zero.1 h with h1 | h1
 · exact hy h1
 · exact cast_ne hd h1
theorem abs_cast (z : Int) : ∃ s : Int, (s = 1 ∨ s = -1) ∧ ((z.natAbs : Nat) : Int) = z * s := by
 rcases Int.le_total 0 z with h | h
 · exact ⟨1, .inl rfl, by omega⟩
 · exact ⟨-1, .inr rfl, by omega⟩
theorem ratio_frac {d E R : Nat} {q p : Rat} (hd : 0 < d) (hq : Fd d E q) (hp : Fd 1 R p) (hq0 : q ≠ 0) (hp0 : p ≠ 0) : ∃ (m : Nat) (r0 z1 : Int), 0 < m ∧ m ≤ E ∧ 0 < r0.natAbs ∧ r0.natAbs ≤ R ∧ z1.natAbs ≤ E ∧ z1 = (q / p).num * (m : Int) ∧ d * r0.natAbs = (q / p).den * m := by
 obtain ⟨z0, e0, b0⟩ := hq
 obtain ⟨r0, e1, b1⟩ := hp
 have n0 := Fd.ne (E := E) hd e0 hq0
 have n1 := Fd.ne (E := R) Nat.one_pos e1 hp0
 have e1' : p = ((r0 : Int) : Rat) := by rw [← e1]; exact (Rat.mul_one p).symm
 obtain ⟨s, hs, es⟩ := abs_cast r0
 have key : (q / p) * (((d * r0.natAbs : Nat) : Int) : Rat) = ((z0 * s : Int) : Rat) := by
  rw [Int.natCast_mul, es, Rat.intCast_mul, Rat.intCast_mul, Rat.intCast_mul, ← e0, ← e1', ← Rat.mul_assoc]
  have : q / p * ((d : Int) : Rat) * p = q * ((d : Int) : Rat) := by
   rw [Rat.mul_assoc, Rat.mul_comm ((d : Int) : Rat), ← Rat.mul_assoc, Rat.div_mul_cancel hp0]
  rw [← Rat.mul_assoc, this]
 obtain ⟨m, hm, g1, g2⟩ := frac (Nat.mul_pos hd (by omega)) key
 have bz : (z0 * s).natAbs ≤ E := by rcases hs with rfl | rfl <;> omega
 refine ⟨m, r0, z0 * s, by omega, ?_, by omega, b1, bz, g1, g2⟩
 have hz : z0 * s ≠ 0 := by rcases hs with rfl | rfl <;> omega
 have hn : (q / p).num.natAbs ≠ 0 := fun e => hz (by rw [g1, Int.natAbs_eq_zero.1 e, Int.zero_mul])
 refine Nat.le_trans ?_ bz
 rw [g1, Int.natAbs_mul, Int.natAbs_natCast]
 exact Nat.le_mul_of_pos_left _ (by omega)
def AllN (P : Rat → Prop) (L : List (Int × Rat)) : Prop := ∀ y ∈ L, P y.2
theorem AllN.lay {P : Rat → Prop} {v : Int} {q : Rat} (h : P q) : AllN P (lay1 v q) := by
 unfold lay1
 split
 · intro y hy; cases hy
 · intro y hy; rw [List.mem_singleton.1 hy]; exact h
theorem AllN.append {P : Rat → Prop} {a b : List (Int × Rat)} (ha : AllN P a) (hb : AllN P b) : AllN P (a ++ b) := fun y hy => by
 rcases List.mem_append.1 hy with h | h
 · exact ha y h
 · exact hb y h
theorem AllN.tail {P : Rat → Prop} {x : Int × Rat} {l : List (Int × Rat)} (h : AllN P (x :: l)) : AllN P l := fun y hy => h y (List.mem_cons_of_mem _ hy)
theorem AllN.scale {P Q : Rat → Prop} {k : Rat} (h : ∀ x, P x → Q (x * k)) : ∀ {l : List (Int × Rat)}, AllN P l → AllN Q (scaleL k l)
 | [], _ => fun y hy => by cases hy
 | (_, q) :: _, hl => (AllN.lay (h q (hl _ List.mem_cons_self))).append (AllN.scale h hl.tail)
theorem AllN.add {P Q T : Rat → Prop} (h1 : ∀ x, P x → T x) (h2 : ∀ x, Q x → T x) (h3 : ∀ x y, P x → Q y → T (x + y)) : ∀ (n : Nat) (a b : List (Int × Rat)), a.length + b.length ≤ n → AllN P a → AllN Q b → AllN T (addL a b) := by
 intro n
 induction n with
 |
  zero =>
  intro a b hn _ _
  have ha : a = [] := List.eq_nil_of_length_eq_zero (by omega)
  have hb : b = [] := List.eq_nil_of_length_eq_zero (by omega)
  subst ha hb; rw [addL]; intro y hy; cases hy
 |
  succ n ih =>
  intro a b hn ha hb
  match a, b with
  | [], [] => rw [addL]; intro y hy; cases hy
  | (v, p) :: a, [] => rw [addL]; exact (AllN.lay (h1 _ (ha _ List.mem_cons_self))).append (ih a [] (by simp at hn ⊢; omega) ha.tail hb)
  | [], (u, q) :: b => rw [addL]; exact (AllN.lay (h2 _ (hb _ List.mem_cons_self))).append (ih [] b (by simp at hn ⊢; omega) ha hb.tail)
  |
   (v, p) :: a, (u, q) :: b =>
   simp only [List.length_cons] at hn
   rw [addL]
   split
   · exact (AllN.lay (h1 _ (ha _ List.mem_cons_self))).append (ih a _ (by simp; omega) ha.tail hb)
   ·
    split
    · exact (AllN.lay (h2 _ (hb _ List.mem_cons_self))).append (ih _ b (by simp; omega) ha hb.tail)
    · exact (AllN.lay (h3 _ _ (ha _ List.mem_cons_self) (hb _ List.mem_cons_self))).append (ih a b (by omega) ha.tail hb.tail)
def Fr (E : Nat) (L : List (Int × Rat)) (k : Rat) : Prop := ∃ d, 0 < d ∧ d ≤ E ∧ AllN (Fd d E) L ∧ Fd d E k
def Wh (R : Nat) (L : List (Int × Rat)) (k : Rat) : Prop := AllN (Fd 1 R) L ∧ Fd 1 R k
theorem Fr.sz {E p : Nat} {L : List (Int × Rat)} {k : Rat} (h : Fr E L k) (hp : Bd E p) : SzL p L ∧ Sz k p := by
 obtain ⟨d, h1, h2, h3, h4⟩ := h
 exact ⟨fun y hy => (h3 y hy).sz h1 h2 hp, h4.sz h1 h2 hp⟩
theorem Wh.fr {R : Nat} {L : List (Int × Rat)} {k : Rat} (h : Wh R L k) (hR : 1 ≤ R) : Fr R L k := ⟨1, Nat.one_pos, hR, h.1, h.2⟩
theorem int_mul (z w : Int) : ((z : Int) : Rat) * ((w : Int) : Rat) = (((z * w : Int)) : Rat) := (Rat.intCast_mul z w).symm
theorem ls_fr {E R p : Nat} {v : Int} {q r k m : Rat} {L M : List (Int × Rat)} (hL : Fr E ((v, q) :: L) k) (hM : Wh R ((v, r) :: M) m) (hq : q ≠ 0) (hr : r ≠ 0) (hp : Bd (2 * (E * R)) p) :
  Fr (2 * (E * R)) (lsL (q / r) ((v, q) :: L) ((v, r) :: M)) (lsK (q / r) k m) ∧ Sz (q / r) p ∧ Sz (dd (q / r)) p ∧ Sz (nn (q / r)) p ∧ SzL p (scaleL (dd (q / r)) ((v, q) :: L)) ∧ Sz (k * dd (q / r)) p ∧ SzL p (scaleL (nn (q / r)) ((v, r) :: M)) ∧ Sz (m * nn (q / r)) p ∧ 1 ≤ R ∧ 1 ≤ E := by
 obtain ⟨d, hd, hdE, hL1, hL2⟩ := hL
 obtain ⟨g, r0, z1, hg, hgE, hr0, hrR, hz1, e1, e2⟩ := ratio_frac hd (hL1 _ List.mem_cons_self) (hM.1 _ List.mem_cons_self) hq hr
 generalize q / r = t at *
 have hER : E ≤ E * R := Nat.le_mul_of_pos_right _ (by omega)
 have hA : ∀ x, Fd d E x → Fd g (E * R) (x * dd t) := fun x hx => by
  obtain ⟨z, h1, h2⟩ := hx
  refine ⟨z * (r0.natAbs : Int), ?_, ?_⟩
  ·
   unfold dd
   rw [Rat.mul_assoc, int_mul, ← Int.natCast_mul, ← e2, Int.natCast_mul, ← int_mul, ← Rat.mul_assoc, h1, int_mul]
  · rw [Int.natAbs_mul, Int.natAbs_natCast]; exact Nat.mul_le_mul h2 hrR
 have hB : ∀ x, Fd 1 R x → Fd g (E * R) (x * nn t) := fun x hx => by
  obtain ⟨z, h1, h2⟩ := hx
  have h1' : x = ((z : Int) : Rat) := by rw [← h1]; exact (Rat.mul_one x).symm
  refine ⟨-(z * z1), ?_, ?_⟩
  ·
   unfold nn
   rw [Rat.mul_assoc, int_mul, h1', int_mul, e1]
   congr 1
   rw [Int.neg_mul, Int.mul_neg]
  · rw [Int.natAbs_neg, Int.natAbs_mul, Nat.mul_comm E R]; exact Nat.mul_le_mul h2 hz1
 have hC : ∀ x y, Fd g (E * R) x → Fd g (E * R) y → Fd g (2 * (E * R)) (x + y) := fun x y hx hy => by
  obtain ⟨z, h1, h2⟩ := hx
  obtain ⟨w, h3, h4⟩ := hy
  exact ⟨z + w, by rw [Rat.add_mul, h1, h3, Rat.intCast_add], by omega⟩
 have hS : ∀ x, Fd g (E * R) x → Sz x p := fun x hx => hx.sz hg (by omega) (hp.le (by omega))
 have sA := AllN.scale hA hL1
 have sB := AllN.scale hB hM.1
 have kA := hA _ hL2
 have kB := hB _ hM.2
 have b1 : t.den ≤ E * R := by
  have h1 : t.den ≤ t.den * g := Nat.le_mul_of_pos_right _ hg
  rw [← e2] at h1
  exact Nat.le_trans h1 (Nat.mul_le_mul hdE hrR)
 have b2 : t.num.natAbs ≤ E := by
  refine Nat.le_trans ?_ hz1
  rw [e1, Int.natAbs_mul, Int.natAbs_natCast]; exact Nat.le_mul_of_pos_right _ hg
 have hone : Bd 1 p := hp.le (by omega)
 refine ⟨⟨g, hg, by omega, ?_, hC _ _ kA kB⟩, ⟨hp.le (by omega), hp.le (by omega)⟩, ⟨?_, hone⟩, ⟨?_, hone⟩, fun y hy => hS _ (sA y hy), hS _ kA, fun y hy => hS _ (sB y hy), hS _ kB, by omega, by omega⟩
 · exact AllN.add (fun x hx => hx.le (by omega)) (fun x hx => hx.le (by omega)) hC _ _ _ (Nat.le_refl _) sA sB
 ·
  show Bd (((t.den : Int) : Rat).num).natAbs p
  rw [Rat.num_intCast, Int.natAbs_natCast]; exact hp.le (by omega)
 ·
  show Bd (((-t.num : Int) : Rat).num).natAbs p
  rw [Rat.num_intCast, Int.natAbs_neg]; exact hp.le (by omega)
end Go.Proofs.YtgffkaconhonlaaGreat

namespace Go.Proofs.YtgffkaconhonlaaGreat
set_option maxRecDepth 20000
def SzR (n p : Nat) (f : Nat → Rat) : Prop := ∀ j, j ≤ n → Sz (f j) p
theorem SzR.more {n p q : Nat} {f : Nat → Rat} (h : SzR n p f) (hq : p ≤ q) : SzR n q f := fun j hj => (h j hj).more hq
theorem SzR.lss {n p q c : Nat} {f g : Nat → Rat} {k : Rat} (hf : SzR n p f) (hg : SzR n q g) (hk : Sz k c) : SzR n (p + (c + q) + 1) (Go.Proofs.YtgffkaconhonlaaGreat.lss f g k) := fun j hj => (hf j hj).sub (hk.mul (hg j hj))
theorem Good.len {n : Nat} {R : List (Nat → Rat)} (h : Good n R) : R.length ≤ n := by
 refine ind_le (B' := fun i j => if i = j then 1 else 0) h.ind fun i hi => ?_
 refine ⟨fun k => ((R[i]?).getD fun _ => 0) k, fun j hj => ?_⟩
 show _ = sm (fun k => ((R[i]?).getD fun _ => 0) k * (if k = j then 1 else 0)) n
 rw [sm_single (k := j) (fun k _ hne => by rw [if_neg hne, Rat.mul_zero]) hj, if_pos rfl, Rat.mul_one]
theorem inv_sz {a : Rat} {p : Nat} (h : Sz a p) (h0 : a ≠ 0) : Sz (1 / a) (p + 1) := by
 have h1 : Sz ((1 : Int) : Rat) 1 := by
  have := Sz.lit (x := 1) (y := 1) (s := false) (by omega) (by omega)
  rw [rn_int] at this
  simpa using this
 have h2 : Sz (1 : Rat) 1 := h1
 exact (h2.div h h0).more (by omega)
end Go.Proofs.YtgffkaconhonlaaGreat

namespace Go.Proofs.YtgffkaconhonlaaGreat
set_option maxRecDepth 20000
def com (a b : Rat) : Rat := a / dd (b / a)
theorem com_fd {d E p : Nat} {a b : Rat} (hd : 0 < d) (ha : Fd d E a) (hb : Fd d E b) (h0 : a ≠ 0) (hp : Bd E p) (h1 : 1 ≤ E) :
  com a b ≠ 0 ∧ Fd d E (com a b) ∧ (∃ i : Int, a = com a b * ((i : Int) : Rat)) ∧ (∃ i : Int, b = com a b * ((i : Int) : Rat)) ∧ Sz (b / a) p ∧ Sz (dd (b / a)) p := by
 obtain ⟨za, ea, ba⟩ := ha
 obtain ⟨zb, eb, bb⟩ := hb
 have n0 := Fd.ne (E := E) hd ea h0
 obtain ⟨s, hs, es⟩ := abs_cast za
 have key : (b / a) * (((za.natAbs : Nat) : Int) : Rat) = ((zb * s : Int) : Rat) := by
  rw [es, Rat.intCast_mul, Rat.intCast_mul, ← ea, ← eb, ← Rat.mul_assoc, ← Rat.mul_assoc, Rat.div_mul_cancel h0]
 obtain ⟨m, hm, g1, g2⟩ := frac (by omega) key
 have hden : (b / a).den ≤ E := by
  refine Nat.le_trans ?_ ba
  rw [g2]; exact Nat.le_mul_of_pos_right _ (by omega)
 have hnum : (b / a).num.natAbs ≤ E := by
  have h3 : (b / a).num.natAbs ≤ (zb * s).natAbs := by
   rw [g1, Int.natAbs_mul, Int.natAbs_natCast]; exact Nat.le_mul_of_pos_right _ (by omega)
  have h4 : (zb * s).natAbs = zb.natAbs := by rcases hs with rfl | rfl <;> omega
  omega
 have hz : za = ((b / a).den : Int) * ((m : Int) * s) := by
  have h3 : za = (za.natAbs : Int) * s := by rw [es]; rcases hs with rfl | rfl <;> omega
  have h4 : ((za.natAbs : Nat) : Int) = ((b / a).den : Int) * (m : Int) := by rw [g2, Int.natCast_mul]
  rw [h4, Int.mul_assoc] at h3; exact h3
 have hdd := dd_ne (b / a)
 have hmn := mul_den (b / a)
 have hdc : dd (b / a) = (((b / a).den : Int) : Rat) := rfl
 have hba : b / a * a = b := Rat.div_mul_cancel h0
 have hsz : Sz (b / a) p := ⟨hp.le hnum, hp.le hden⟩
 have hsd : Sz (dd (b / a)) p := by
  refine ⟨?_, hp.le h1⟩
  show Bd (((((b / a).den : Int)) : Rat).num).natAbs p
  rw [Rat.num_intCast, Int.natAbs_natCast]; exact hp.le hden
 refine ⟨fun e => ?_, ⟨(m : Int) * s, ?_, ?_⟩, ⟨((b / a).den : Int), ?_⟩, ⟨(b / a).num, ?_⟩, hsz, hsd⟩
 ·
  have h3 : a = com a b * dd (b / a) := (Rat.div_mul_cancel hdd).symm
  rw [e, Rat.zero_mul] at h3
  exact h0 h3
 ·
  have h3 : com a b * dd (b / a) = a := Rat.div_mul_cancel hdd
  have h4 : com a b * ((d : Int) : Rat) * dd (b / a) = (((m : Int) * s : Int) : Rat) * dd (b / a) := by
   rw [Rat.mul_assoc, Rat.mul_comm _ (dd (b / a)), ← Rat.mul_assoc, h3, ea, hz, Rat.intCast_mul, hdc, Rat.mul_comm]
  have h5 := congrArg (fun x => x * (dd (b / a))⁻¹) h4
  simp only [Rat.mul_assoc, Rat.mul_inv_cancel _ hdd, Rat.mul_one] at h5
  exact h5
 ·
  have h3 : ((m : Int) * s).natAbs = m := by rcases hs with rfl | rfl <;> omega
  rw [h3]
  refine Nat.le_trans ?_ ba
  rw [g2]; exact Nat.le_mul_of_pos_left _ (b / a).den_pos
 · rw [← hdc]; exact (Rat.div_mul_cancel hdd).symm
 ·
  rw [← hmn]
  show b = a / dd (b / a) * (b / a * dd (b / a))
  rw [Rat.mul_comm (b / a), ← Rat.mul_assoc, Rat.div_mul_cancel hdd, Rat.mul_comm, hba]
structure UAt (d E : Nat) (L : List (Int × Rat)) (i : Nat) (u : Rat) : Prop where
 ne : u ≠ 0
 fd : Fd d E u
 dv : ∀ j y, j < i → L[j]? = some y → ∃ z : Int, y.2 = u * ((z : Int) : Rat)
theorem UAt.start {d E : Nat} {v : Int} {q : Rat} {l : List (Int × Rat)} (hq : q ≠ 0) (hf : Fd d E q) : UAt d E ((v, q) :: l) 1 q :=
 ⟨hq, hf, fun j y hj hy => by
  obtain rfl : j = 0 := by omega
  simp at hy
  subst hy
  exact ⟨1, by rw [show (((1 : Int)) : Rat) = 1 from rfl, Rat.mul_one]⟩⟩
theorem UAt.step {d E p i : Nat} {L : List (Int × Rat)} {u : Rat} {y : Int × Rat} (h : UAt d E L i u) (hd : 0 < d) (hy : L[i]? = some y) (hf : Fd d E y.2) (hp : Bd E p) (h1 : 1 ≤ E) : UAt d E L (i + 1) (com u y.2) := by
 obtain ⟨g1, g2, ⟨z1, g3⟩, ⟨z2, g4⟩, _⟩ := com_fd hd h.fd hf h.ne hp h1
 refine ⟨g1, g2, fun j x hj hx => ?_⟩
 by_cases e : j = i
 ·
  subst e
  rw [hy] at hx
  injection hx with hx
  subst hx
  exact ⟨z2, g4⟩
 ·
  obtain ⟨z, hz⟩ := h.dv j x (by omega) hx
  refine ⟨z1 * z, ?_⟩
  rw [hz, Rat.intCast_mul, ← Rat.mul_assoc, ← g3]
theorem UAt.last {d E p : Nat} {L : List (Int × Rat)} {u k : Rat} (h : UAt d E L L.length u) (hd : 0 < d) (hdE : d ≤ E) (hL : AllN (Fd d E) L) (hk : Fd d E k) (hp : Bd E p) :
  Sz (com u k) p ∧ com u k ≠ 0 ∧ Sz (1 / com u k) (p + 1) ∧ 1 / com u k ≠ 0 ∧ Wh E (scaleL (1 / com u k) L) (k * (1 / com u k)) := by
 obtain ⟨g1, g2, ⟨z1, g3⟩, ⟨z2, g4⟩, _⟩ := com_fd hd h.fd hk h.ne hp (by omega)
 have hall : ∀ y ∈ L, ∃ z : Int, y.2 = com u k * ((z : Int) : Rat) := fun y hy => by
  obtain ⟨j, hj, e⟩ := List.getElem_of_mem hy
  obtain ⟨z, hz⟩ := h.dv j y hj (by rw [List.getElem?_eq_getElem hj, e])
  exact ⟨z1 * z, by rw [hz, Rat.intCast_mul, ← Rat.mul_assoc, ← g3]⟩
 generalize com u k = c at *
 obtain ⟨zc, ec, bc⟩ := g2
 have hzc := Fd.ne (E := E) hd ec g1
 have hsz : Sz c p := Fd.sz ⟨zc, ec, bc⟩ hd hdE hp
 have hinv : c * (1 / c) = 1 := by rw [Rat.mul_comm]; exact Rat.div_mul_cancel g1
 have hwh : ∀ x, Fd d E x → (∃ z : Int, x = c * ((z : Int) : Rat)) → Fd 1 E (x * (1 / c)) := fun x hx ⟨z, hz⟩ => by
  obtain ⟨zx, ex, bx⟩ := hx
  have e1 : x * (1 / c) = ((z : Int) : Rat) := by rw [hz, Rat.mul_comm c, Rat.mul_assoc, hinv, Rat.mul_one]
  refine ⟨z, by rw [e1]; exact Rat.mul_one _, ?_⟩
  have e2 : ((zx : Int) : Rat) = ((zc * z : Int) : Rat) := by
   rw [← ex, hz, Rat.intCast_mul, ← ec, Rat.mul_assoc, Rat.mul_assoc, Rat.mul_comm ((z : Int) : Rat)]
  have e3 := Rat.intCast_inj.1 e2
  refine Nat.le_trans ?_ bx
  rw [e3, Int.natAbs_mul]
  exact Nat.le_mul_of_pos_left _ (by omega)
 refine ⟨hsz, g1, inv_sz hsz g1, fun e => ?_, fun y hy => ?_, hwh k hk ⟨z2, g4⟩⟩
 · rw [e, Rat.mul_zero] at hinv; exact absurd hinv (by decide)
 ·
  have hP : AllN (fun x => Fd d E x ∧ ∃ z : Int, x = c * ((z : Int) : Rat)) L := fun y hy => ⟨hL y hy, hall y hy⟩
  exact AllN.scale (Q := Fd 1 E) (fun x hx => hwh x hx.1 hx.2) hP y hy
structure Ro where
 v : Nat
 L : List (Int × Rat)
 k : Rat
 R : Nat
structure RoOk (n : Nat) (r : Ro) : Prop where
 hd : ∃ q l, r.L = ((r.v : Int), q) :: l
 asc : Asc (n : Int) 0 r.L
 wh : Wh r.R r.L r.k
 pos : 1 ≤ r.R
def pot : List Ro → Nat → Nat
 | [], _ => 1
 | r :: l, h => (if h ≤ r.v then 2 * r.R else 1) * pot l h
theorem pot_pos {n : Nat} : ∀ {l : List Ro} (h : Nat), (∀ r ∈ l, RoOk n r) → 1 ≤ pot l h
 | [], _, _ => Nat.le_refl _
 |
  r :: l, h, hl => by
  have h1 := (hl r List.mem_cons_self).pos
  have h2 := pot_pos (l := l) h fun s hs => hl s (List.mem_cons_of_mem _ hs)
  rw [pot]
  exact Nat.mul_pos (by split <;> omega) h2
theorem pot_mono {n : Nat} {h h' : Nat} (hh : h ≤ h') : ∀ {l : List Ro}, (∀ r ∈ l, RoOk n r) → pot l h' ≤ pot l h
 | [], _ => Nat.le_refl _
 |
  r :: l, hl => by
  have h1 := (hl r List.mem_cons_self).pos
  rw [pot, pot]
  refine Nat.mul_le_mul ?_ (pot_mono hh fun s hs => hl s (List.mem_cons_of_mem _ hs))
  split
  · rw [if_pos (by omega)]; exact Nat.le_refl _
  · split <;> omega
theorem pot_take {n : Nat} {r : Ro} : ∀ {l : List Ro}, (∀ r ∈ l, RoOk n r) → r ∈ l → 2 * r.R * pot l (r.v + 1) ≤ pot l r.v
 | [], _, hr => by cases hr
 |
  s :: l, hl, hr => by
  have hl' : ∀ r ∈ l, RoOk n r := fun s hs => hl s (List.mem_cons_of_mem _ hs)
  rcases List.mem_cons.1 hr with rfl | hr
  ·
   rw [pot, pot, if_neg (by omega), if_pos (Nat.le_refl _), Nat.one_mul]
   exact Nat.mul_le_mul (Nat.le_refl _) (pot_mono (by omega) hl')
  ·
   have ih := pot_take hl' hr
   have h1 := (hl s List.mem_cons_self).pos
   rw [pot, pot, ← Nat.mul_assoc, Nat.mul_comm (2 * r.R), Nat.mul_assoc]
   refine Nat.mul_le_mul ?_ ih
   split
   · rw [if_pos (by omega)]; exact Nat.le_refl _
   · split <;> omega
def rows (N : Nat) (l : List Ro) : List (Nat → Rat) := l.map fun r => fn N r.L r.k
structure RAt (n M : Nat) (rs : List Ro) (L0 : List (Int × Rat)) (k0 : Rat) (P0 : Nat) (L : List (Int × Rat)) (k : Rat) : Prop where
 sz : ∃ h E : Nat, Asc (M : Int) (h : Int) L ∧ Fr E L k ∧ E * pot rs h ≤ P0
 red : ∀ N, Red N (rows N rs) (fn N L0 k0) (fn N L k)
theorem RAt.start {n M E P0 : Nat} {rs : List Ro} {L0 : List (Int × Rat)} {k0 : Rat} (hA : Asc (M : Int) 0 L0) (hF : Fr E L0 k0) (hP : E * pot rs 0 ≤ P0) : RAt n M rs L0 k0 P0 L0 k0 :=
 ⟨⟨0, E, hA, hF, hP⟩, fun _ => Red.refl _ _ _⟩
theorem RAt.bd {n M P0 p : Nat} {rs : List Ro} {L0 L : List (Int × Rat)} {k0 k : Rat} (h : RAt n M rs L0 k0 P0 L k) (hrs : ∀ r ∈ rs, RoOk n r) (hp : Bd P0 p) : SzL p L ∧ Sz k p ∧ Asc (M : Int) 0 L := by
 obtain ⟨a, E, h1, h2, h3⟩ := h.sz
 have h4 := pot_pos a hrs
 have h5 : E ≤ P0 := Nat.le_trans (Nat.le_mul_of_pos_right _ h4) h3
 exact ⟨(h2.sz (hp.le h5)).1, (h2.sz (hp.le h5)).2, h1.mono (by omega)⟩
theorem RAt.step {n M P0 p : Nat} {rs : List Ro} {L0 l : List (Int × Rat)} {k0 k q : Rat} {v : Int} (h : RAt n M rs L0 k0 P0 ((v, q) :: l) k) (hnM : n ≤ M) (hrs : ∀ r ∈ rs, RoOk n r) (hp : Bd P0 p) {r : Ro} (hr : r ∈ rs) (hv : (r.v : Int) = v) {s : Rat} {m : List (Int × Rat)} (hm : r.L = (v, s) :: m) :
  RAt n M rs L0 k0 P0 (lsL (q / s) ((v, q) :: l) r.L) (lsK (q / s) k r.k) ∧ s ≠ 0 ∧ Sz (q / s) p ∧ Sz (dd (q / s)) p ∧ Sz (nn (q / s)) p ∧ SzL p (scaleL (dd (q / s)) ((v, q) :: l)) ∧ Sz (k * dd (q / s)) p ∧ SzL p (scaleL (nn (q / s)) r.L) ∧ Sz (r.k * nn (q / s)) p ∧ SzL p r.L ∧ Sz r.k p := by
 obtain ⟨a, E, h1, h2, h3⟩ := h.sz
 have ho := hrs r hr
 have hq := h1.2.2.1
 have hasc := ho.asc
 have hwh := ho.wh
 rw [hm] at hasc hwh
 have hs := hasc.2.2.1
 have hav : a ≤ r.v := by have := h1.1; omega
 have e1 : 2 * (E * r.R) * pot rs (r.v + 1) ≤ P0 := by
  refine Nat.le_trans ?_ h3
  rw [Nat.mul_left_comm 2 E, Nat.mul_assoc]
  exact Nat.mul_le_mul (Nat.le_refl _) (Nat.le_trans (pot_take hrs hr) (pot_mono hav hrs))
 have e2 : 2 * (E * r.R) ≤ P0 := Nat.le_trans (Nat.le_mul_of_pos_right _ (pot_pos _ hrs)) e1
 have hR0 : r.R ≤ P0 := by
  have h4 : 1 ≤ E := by obtain ⟨d, hd, hdE, _⟩ := h2; omega
  have h5 : r.R ≤ E * r.R := Nat.le_mul_of_pos_left _ h4
  omega
 have hwz := (hwh.fr ho.pos).sz (hp.le hR0)
 obtain ⟨g1, g2, g3, g4, g5, g6, g7, g8, _⟩ := ls_fr h2 hwh hq hs (hp.le e2)
 rw [hm]
 refine ⟨⟨⟨r.v + 1, _, ?_, g1, e1⟩, fun N => ?_⟩, hs, g2, g3, g4, g5, g6, g7, g8, hwz.1, hwz.2⟩
 ·
  have h6 := ls_asc h1 (hasc.more (N' := (M : Int)) (by omega))
  rw [← hv] at h6 ⊢
  exact h6
 ·
  refine (h.red N).step (r := fn N r.L r.k) (s := nn (q / s)) (List.mem_map.2 ⟨r, hr, rfl⟩) (dd_ne (q / s)) fun j _ => ?_
  rw [fn_ls, hm]
end Go.Proofs.YtgffkaconhonlaaGreat

namespace Go.Proofs.YtgffkaconhonlaaGreat
set_option maxRecDepth 20000
def FdR (n d M : Nat) (f : Nat → Rat) : Prop := ∀ j, j ≤ n → Fd d M (f j)
theorem FdR.le {n d M M' : Nat} {f : Nat → Rat} (h : FdR n d M f) (hM : M ≤ M') : FdR n d M' f := fun j hj => (h j hj).le hM
def FrR (n E : Nat) (f : Nat → Rat) : Prop := ∃ d, 0 < d ∧ d ≤ E ∧ FdR n d E f
theorem fd_less {D M de E B : Nat} {x c y : Rat} (hx : Fd (de * D) B x) (hc : Fd de E c) (hy : Fd D M y) : Fd (de * D) (B + E * M) (x - c * y) := by
 obtain ⟨zx, ex, bx⟩ := hx
 obtain ⟨zc, ec, bc⟩ := hc
 obtain ⟨zy, ey, by_⟩ := hy
 refine ⟨zx - zc * zy, ?_, ?_⟩
 ·
  rw [Int.natCast_mul, Rat.intCast_mul] at ex ⊢
  rw [Rat.intCast_sub, Rat.intCast_mul, ← ex, ← ec, ← ey]
  generalize ((de : Int) : Rat) = a
  generalize ((D : Int) : Rat) = b
  grind
 ·
  have h1 : (zc * zy).natAbs ≤ E * M := by rw [Int.natAbs_mul]; exact Nat.mul_le_mul bc by_
  omega
theorem fd_up {D M de E : Nat} {x : Rat} (hx : Fd de E x) (hM : D ≤ M) : Fd (de * D) (E * M) x := by
 obtain ⟨z, h1, h2⟩ := hx
 refine ⟨z * (D : Int), ?_, ?_⟩
 · rw [Int.natCast_mul, Rat.intCast_mul, ← Rat.mul_assoc, h1, Rat.intCast_mul]
 · rw [Int.natAbs_mul, Int.natAbs_natCast]; exact Nat.mul_le_mul h2 hM
theorem red_fd {n D M de E : Nat} : ∀ {R : List (Nat → Rat)} {a : Nat → Rat} {B : Nat}, (∀ r ∈ R, FdR n D M r) → (∀ r ∈ R, Fd de E (a (lead n r))) → (R.Pairwise fun r s => s (lead n r) = 0 ∧ r (lead n s) = 0) → FdR n (de * D) B a → FdR n (de * D) (B + R.length * (E * M)) (red n R a)
 | [], _, _, _, _, _, h => by rw [red, List.length_nil, Nat.zero_mul, Nat.add_zero]; exact h
 |
  r :: R, a, B, hR, ha, hp, h => by
  show FdR n _ _ (red n R (lss a r (a (lead n r))))
  have hp2 := List.pairwise_cons.1 hp
  have h1 : FdR n (de * D) (B + E * M) (lss a r (a (lead n r))) := fun j hj => fd_less (h j hj) (ha r List.mem_cons_self) (hR r List.mem_cons_self j hj)
  have h2 : ∀ q ∈ R, Fd de E (lss a r (a (lead n r)) (lead n q)) := fun q hq => by
   have e : lss a r (a (lead n r)) (lead n q) = a (lead n q) := by
    show a _ - _ * r _ = _
    rw [(hp2.1 q hq).2, Rat.mul_zero, sub_nil]
   rw [e]
   exact ha q (List.mem_cons_of_mem _ hq)
  refine (red_fd (R := R) (fun q hq => hR q (List.mem_cons_of_mem _ hq)) h2 hp2.2 h1).le ?_
  rw [List.length_cons, Nat.add_mul, Nat.one_mul]; omega
def bdM (E : Nat) : Nat → Nat
 | 0 => 1
 | p + 1 => 2 * bdM E p * ((p + 1) * (E * bdM E p))
theorem bdM_pos {E : Nat} (hE : 1 ≤ E) : ∀ p, 1 ≤ bdM E p
 | 0 => Nat.le_refl _
 | p + 1 => Nat.mul_pos (Nat.mul_pos (by omega) (bdM_pos hE p)) (Nat.mul_pos (by omega) (Nat.mul_pos hE (bdM_pos hE p)))
def AllFd (n E : Nat) (R : List (Nat → Rat)) : Prop := ∃ D, 0 < D ∧ D ≤ bdM E R.length ∧ ∀ r ∈ R, FdR n D (bdM E R.length) r
theorem AllFd.left {n E : Nat} {R : List (Nat → Rat)} {e : Nat → Rat} (h : AllFd n E R) (hl : ∀ r ∈ R, lead n r ≤ n) (hp : R.Pairwise fun r s => s (lead n r) = 0 ∧ r (lead n s) = 0) (he : FrR n E e) (i : Nat) :
  ∃ D, 0 < D ∧ D ≤ E * bdM E R.length ∧ FdR n D ((R.length + 1) * (E * bdM E R.length)) (red n (R.take i) e) := by
 obtain ⟨D, h1, h2, h3⟩ := h
 obtain ⟨de, g1, g2, g3⟩ := he
 have ht : ∀ r ∈ R.take i, r ∈ R := fun r hr => List.mem_of_mem_take hr
 have hs : FdR n (de * D) (E * bdM E R.length) e := fun j hj => fd_up (g3 j hj) h2
 refine ⟨de * D, Nat.mul_pos g1 h1, Nat.mul_le_mul g2 h2, (red_fd (R := R.take i) (M := bdM E R.length) (fun r hr => h3 r (ht r hr)) (fun r hr => g3 _ (hl r (ht r hr))) (hp.sublist (List.take_sublist i R)) hs).le ?_⟩
 have h4 : (R.take i).length ≤ R.length := by rw [List.length_take]; omega
 have h5 := Nat.mul_le_mul_right (E * bdM E R.length) h4
 rw [Nat.add_mul, Nat.one_mul]
 omega
theorem cast_abs {z s : Int} (h : ((z.natAbs : Nat) : Int) = z * s) : (((z.natAbs : Nat) : Int) : Rat) = ((z : Int) : Rat) * ((s : Int) : Rat) := by rw [h, Rat.intCast_mul]
theorem AllFd.step {n E : Nat} {R : List (Nat → Rat)} {ok : Bool} {e : Nat → Rat} (h : AllFd n E R) (hg : Good n R) (he : FrR n E e) : AllFd n E (stepS n R ok e).1 := by
 obtain ⟨dd_, g1, g2, g3⟩ := h.left (fun r hr => Nat.le_of_lt (hg.lt r hr)) hg.two he R.length
 rw [List.take_length] at g3
 unfold stepS
 split
 · exact h
 ·
  next hl =>
  obtain ⟨D, h1, h2, h3⟩ := h
  generalize hM : bdM E R.length = M at *
  generalize hB : (R.length + 1) * (E * M) = B at *
  generalize red n R e = a at *
  have hk : lead n a < n := by have := lead_le n a; omega
  have ha := lead_ne hk
  generalize lead n a = k at *
  obtain ⟨za, ea, ba⟩ := g3 k (Nat.le_of_lt hk)
  have n0 := Fd.ne (E := B) g1 ea ha
  obtain ⟨s, hs, es⟩ := abs_cast za
  have es' := cast_abs es
  have hinv : 1 / a k * a k = 1 := Rat.div_mul_cancel ha
  -- the new row by za's absolute value
  have key : ∀ j, j ≤ n → ∃ z : Int, tms a (1 / a k) j * (((za.natAbs : Nat) : Int) : Rat) = ((z : Int) : Rat) ∧ z.natAbs ≤ B := fun j hj => by
   obtain ⟨zj, ej, bj⟩ := g3 j hj
   refine ⟨zj * s, ?_, ?_⟩
   ·
    rw [es', ← ea, Rat.intCast_mul, ← ej]
    show a j * (1 / a k) * (a k * ((dd_ : Int) : Rat) * ((s : Int) : Rat)) = a j * ((dd_ : Int) : Rat) * ((s : Int) : Rat)
    generalize 1 / a k = u at *
    generalize ((dd_ : Int) : Rat) = d at *
    generalize ((s : Int) : Rat) = t at *
    grind
   ·
    have : (zj * s).natAbs = zj.natAbs := by rcases hs with rfl | rfl <;> omega
    omega
  have e1 : (R.map (fun r => lss r (tms a (1 / a k)) (r k)) ++ [tms a (1 / a k)]).length = R.length + 1 := by simp
  have e2 : bdM E (R.length + 1) = 2 * M * B := by rw [bdM, hM, hB]
  have hA : 0 < za.natAbs := by omega
  have hMB : D * za.natAbs ≤ M * B := Nat.mul_le_mul h2 ba
  refine ⟨D * za.natAbs, Nat.mul_pos h1 hA, ?_, fun f hf => ?_⟩
  · rw [e1, e2, Nat.mul_assoc]; omega
  ·
   rw [e1, e2, Nat.mul_assoc]
   rcases List.mem_append.1 hf with hf | hf
   ·
    obtain ⟨r, hr, rfl⟩ := List.mem_map.1 hf
    intro j hj
    obtain ⟨zr, er, br⟩ := h3 r hr j hj
    obtain ⟨zk, ek, bk⟩ := h3 r hr k (Nat.le_of_lt hk)
    obtain ⟨z, ez, bz⟩ := key j hj
    refine ⟨zr * (za.natAbs : Int) - zk * z, ?_, ?_⟩
    ·
     show (r j - r k * tms a (1 / a k) j) * (((D * za.natAbs : Nat) : Int) : Rat) = _
     rw [Int.natCast_mul, Rat.intCast_mul, Rat.intCast_sub, Rat.intCast_mul, Rat.intCast_mul, ← er, ← ek, ← ez]
     generalize tms a (1 / a k) j = f
     generalize (((za.natAbs : Nat) : Int) : Rat) = A
     generalize ((D : Int) : Rat) = d
     grind
    ·
     have h5 : (zr * (za.natAbs : Int)).natAbs ≤ M * B := by rw [Int.natAbs_mul, Int.natAbs_natCast]; exact Nat.mul_le_mul br ba
     have h6 : (zk * z).natAbs ≤ M * B := by rw [Int.natAbs_mul]; exact Nat.mul_le_mul bk bz
     omega
   ·
    rw [List.mem_singleton.1 hf]
    intro j hj
    obtain ⟨z, ez, bz⟩ := key j hj
    refine ⟨z * (D : Int), ?_, ?_⟩
    ·
     rw [Int.natCast_mul, Rat.intCast_mul, Rat.intCast_mul, ← ez]
     generalize tms a (1 / a k) j = f
     generalize (((za.natAbs : Nat) : Int) : Rat) = A
     generalize ((D : Int) : Rat) = d
     grind
    ·
     rw [Int.natAbs_mul, Int.natAbs_natCast]
     have := Nat.mul_le_mul bz h2
     rw [Nat.mul_comm B M] at this
     omega
theorem AllFd.nil (n E : Nat) : AllFd n E [] := ⟨1, Nat.one_pos, Nat.le_refl _, fun r hr => by cases hr⟩
theorem bdM_bd {E e : Nat} (hE : E ≤ 4294967296 ^ e) : ∀ p, p ≤ 1000 → bdM E p ≤ 4294967296 ^ ((2 ^ p - 1) * (e + 1))
 | 0, _ => by rw [bdM]; exact Nat.one_le_pow _ _ (by omega)
 |
  p + 1, hp => by
  have ih := bdM_bd hE p (by omega)
  have h0 : 1 ≤ 2 ^ p := Nat.one_le_pow _ _ (by omega)
  have e1 : (2 ^ (p + 1) - 1) * (e + 1) = 1 + e + ((2 ^ p - 1) * (e + 1) + (2 ^ p - 1) * (e + 1)) := by
   rw [Nat.pow_succ, show 2 ^ p * 2 - 1 = (2 ^ p - 1) + (2 ^ p - 1) + 1 by omega, Nat.add_mul, Nat.add_mul]
   omega
  rw [e1, Nat.pow_add, Nat.pow_add, Nat.pow_add, bdM]
  generalize 4294967296 ^ ((2 ^ p - 1) * (e + 1)) = X at *
  generalize 4294967296 ^ e = Y at *
  generalize bdM E p = M at *
  have h1 : 2 * M * ((p + 1) * (E * M)) = 2 * (p + 1) * E * (M * M) := by
   simp only [Nat.mul_assoc, Nat.mul_left_comm, Nat.mul_comm]
  rw [h1]
  exact Nat.mul_le_mul (Nat.mul_le_mul (by omega) hE) (Nat.mul_le_mul ih ih)
theorem bdM_mono {E : Nat} (hE : 1 ≤ E) : ∀ {p q : Nat}, p ≤ q → bdM E p ≤ bdM E q
 | p, 0, h => by
         obtain rfl : p = 0 := by omega
         exact Nat.le_refl _
 |
  p, q + 1, h => by
  by_cases e : p = q + 1
  · subst e; exact Nat.le_refl _
  ·
   refine Nat.le_trans (bdM_mono hE (q := q) (by omega)) ?_
   have h1 := bdM_pos hE q
   rw [bdM, Nat.mul_comm 2, Nat.mul_assoc]
   exact Nat.le_mul_of_pos_right _ (Nat.mul_pos (by omega) (Nat.mul_pos (by omega) (Nat.mul_pos hE h1)))
end Go.Proofs.YtgffkaconhonlaaGreat
