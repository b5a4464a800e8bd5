/-
  Sums as lists of terms, no program: the number of a variable, one sum less so often another, what goes into all numbers, how great the numbers get.
-/
import Derived.Test.YtkfkjdpkkagjgaaGreatEch
import Derived.Test.YtkfkjdpkkagjgaaGreatMAa
namespace Go.Proofs.YtkfkjdpkkagjgaaGreat
set_option maxRecDepth 20000
set_option linter.unusedVariables false
def co : List (Int × Rat) → Int → Rat
 | [], _ => 0
 | (v, q) :: l, j => (if v = j then q else 0) + co l j
theorem co_append (j : Int) : ∀ l m : List (Int × Rat), co (l ++ m) j = co l j + co m j
 | [], m => by rw [List.nil_append, co, Rat.zero_add]
 | (v, q) :: l, m => by rw [List.cons_append, co, co, co_append j l m, Rat.add_assoc]
theorem co_lay (v : Int) (q : Rat) (j : Int) : co (lay1 v q) j = if v = j then q else 0 := by
 unfold lay1
 split
 · next h => rw [co, h]; split <;> rfl
 · rw [co, co, Rat.add_zero]
theorem co_add (j : Int) : ∀ (n : Nat) (a b : List (Int × Rat)), a.length + b.length ≤ n → co (addL a b) j = co a j + co b j := by
 intro n
 induction n with
 |
  zero =>
  intro a b hn
  have ha : a = [] := List.eq_nil_of_length_eq_zero (by omega)
  have hb : b = [] := List.eq_nil_of_length_eq_zero (by omega)
  subst ha hb; rw [addL, co, Rat.add_zero]
 |
  succ n ih =>
  intro a b hn
  match a, b with
  | [], [] => rw [addL, co, Rat.add_zero]
  |
   (v, p) :: a, [] => 
   rw [addL, co_append, co_lay, ih a [] (by simp at hn ⊢; omega)]
   show (if v = j then p else 0) + (co a j + 0) = (if v = j then p else 0) + co a j + 0
   rw [Rat.add_zero, Rat.add_zero]
  |
   [], (u, q) :: b => 
   rw [addL, co_append, co_lay, ih [] b (by simp at hn ⊢; omega)]
   show (if u = j then q else 0) + (0 + co b j) = 0 + ((if u = j then q else 0) + co b j)
   rw [Rat.zero_add, Rat.zero_add]
  |
   (v, p) :: a, (u, q) :: b =>
   simp only [List.length_cons] at hn
   rw [addL]
   split
   ·
    rw [co_append, co_lay, ih a _ (by simp; omega)]
    show (if v = j then p else 0) + (co a j + co ((u, q) :: b) j) = (if v = j then p else 0) + co a j + co ((u, q) :: b) j
    rw [Rat.add_assoc]
   ·
    split
    ·
     rw [co_append, co_lay, ih _ b (by simp; omega)]
     show (if u = j then q else 0) + (co ((v, p) :: a) j + co b j) = co ((v, p) :: a) j + ((if u = j then q else 0) + co b j)
     rw [← Rat.add_assoc, Rat.add_comm _ (co ((v, p) :: a) j), Rat.add_assoc]
    ·
     have e : v = u := by omega
     subst e
     rw [co_append, co_lay, ih a b (by omega), co, co, add4]
     congr 1
     split
     · rfl
     · rw [Rat.add_zero]
theorem co_scale (k : Rat) (j : Int) : ∀ l : List (Int × Rat), co (scaleL k l) j = co l j * k
 | [] => by rw [scaleL, co, Rat.zero_mul]
 |
  (v, q) :: l => by
  rw [scaleL, co_append, co_lay, co, co_scale k j l, Rat.add_mul]
  congr 1
  split
  · rfl
  · rw [Rat.zero_mul]
def Asc (N : Int) : Int → List (Int × Rat) → Prop
 | _, [] => True
 | lo, (v, q) :: l => lo ≤ v ∧ v < N ∧ q ≠ 0 ∧ Asc N (v + 1) l
theorem Asc.mono {N lo lo' : Int} {l : List (Int × Rat)} (h : Asc N lo l) (hl : lo' ≤ lo) : Asc N lo' l := by
 cases l with
 | nil => trivial
 | cons x l => obtain ⟨v, q⟩ := x; exact ⟨by have := h.1; omega, h.2⟩
theorem Asc.more {N N' : Int} (hN : N ≤ N') : ∀ {lo : Int} {l : List (Int × Rat)}, Asc N lo l → Asc N' lo l
 | _, [], _ => trivial
 | _, (_, _) :: _, h => ⟨h.1, by have := h.2.1; omega, h.2.2.1, h.2.2.2.more hN⟩
theorem Asc.lay {N lo v : Int} {q : Rat} {l : List (Int × Rat)} (h1 : lo ≤ v) (h2 : v < N) (h : Asc N (v + 1) l) : Asc N lo (lay1 v q ++ l) := by
 unfold lay1
 split
 · exact h.mono (by omega)
 · next hq => exact ⟨h1, h2, hq, h⟩
theorem Asc.add {N : Int} : ∀ (n : Nat) (lo : Int) (a b : List (Int × Rat)), a.length + b.length ≤ n → Asc N lo a → Asc N lo b → Asc N lo (addL a b) := by
 intro n
 induction n with
 |
  zero =>
  intro lo a b hn _ _
  have ha : a = [] := List.eq_nil_of_length_eq_zero (by omega)
  have hb : b = [] := List.eq_nil_of_length_eq_zero (by omega)
  subst ha hb; rw [addL]; trivial
 |
  succ n ih =>
  intro lo a b hn ha hb
  match a, b with
  | [], [] => rw [addL]; trivial
  | (v, p) :: a, [] => rw [addL]; exact Asc.lay ha.1 ha.2.1 (ih _ a [] (by simp at hn ⊢; omega) ha.2.2.2 trivial)
  | [], (u, q) :: b => rw [addL]; exact Asc.lay hb.1 hb.2.1 (ih _ [] b (by simp at hn ⊢; omega) trivial hb.2.2.2)
  |
   (v, p) :: a, (u, q) :: b =>
   simp only [List.length_cons] at hn
   rw [addL]
   split
   · next h => exact Asc.lay ha.1 ha.2.1 (ih _ a _ (by simp; omega) ha.2.2.2 ⟨by omega, hb.2⟩)
   ·
    split
    · next h => exact Asc.lay hb.1 hb.2.1 (ih _ _ b (by simp; omega) ⟨by omega, ha.2⟩ hb.2.2.2)
    ·
     have e : v = u := by omega
     subst e
     exact Asc.lay ha.1 ha.2.1 (ih _ a b (by omega) ha.2.2.2 hb.2.2.2)
theorem Asc.scale {N : Int} (k : Rat) : ∀ {lo : Int} {l : List (Int × Rat)}, Asc N lo l → Asc N lo (scaleL k l)
 | _, [], _ => trivial
 | _, (_, _) :: _, h => Asc.lay h.1 h.2.1 (h.2.2.2.scale k)
theorem Asc.zero {N : Int} : ∀ {lo : Int} {l : List (Int × Rat)} {j : Int}, Asc N lo l → j < lo → co l j = 0
 | _, [], _, _, _ => rfl
 |
  _, (v, q) :: l, j, h, hj => by
  have := h.1
  rw [co, if_neg (by omega), h.2.2.2.zero (by omega), Rat.add_zero]
theorem Asc.top {N : Int} : ∀ {lo : Int} {l : List (Int × Rat)} {j : Int}, Asc N lo l → N ≤ j → co l j = 0
 | _, [], _, _, _ => rfl
 |
  _, (v, q) :: l, j, h, hj => by
  have := h.2.1
  rw [co, if_neg (by omega), h.2.2.2.top hj, Rat.add_zero]
theorem Asc.len {N : Int} : ∀ {lo : Int} {l : List (Int × Rat)}, Asc N lo l → lo ≤ N → lo + l.length ≤ N
 | _, [], _, h => by simpa using h
 |
  _, (v, q) :: l, h, _ => by
  have h1 := h.1
  have h2 := h.2.1
  have h3 := h.2.2.2.len (by omega)
  simp only [List.length_cons]; omega
def fn (n : Nat) (L : List (Int × Rat)) (k : Rat) : Nat → Rat := fun j => if j = n then k else co L (j : Int)
theorem fn_k (n : Nat) (L : List (Int × Rat)) (k : Rat) : fn n L k n = k := if_pos rfl
theorem fn_lt {n j : Nat} {L : List (Int × Rat)} {k : Rat} (h : j < n) : fn n L k j = co L (j : Int) := if_neg (by omega)
theorem fn_nil (n : Nat) (k : Rat) : lead n (fn n [] k) = n := lead_all.2 fun j hj => by rw [fn_lt hj]; rfl
theorem fn_lead {n : Nat} {v : Int} {q k : Rat} {l : List (Int × Rat)} (h : Asc (n : Int) 0 ((v, q) :: l)) : ((lead n (fn n ((v, q) :: l) k) : Nat) : Int) = v := by
 obtain ⟨j, rfl⟩ := Int.eq_ofNat_of_zero_le h.1
 have h2 := h.2.1
 have e : lead n (fn n (((j : Int), q) :: l) k) = j := by
  refine lead_of (n := n) (k := j) (by omega) (fun i hi => ?_) ?_
  · rw [fn_lt (by omega), co, if_neg (by omega), h.2.2.2.zero (by omega), Rat.add_zero]
  · rw [fn_lt (by omega), co, if_pos rfl, h.2.2.2.zero (by omega), Rat.add_zero]; exact h.2.2.1
 rw [e]
theorem fn_lift {n : Nat} {L : List (Int × Rat)} {k : Rat} (h : Asc (n : Int) 0 L) (j : Nat) (hj : j ≤ n + 1) : fn (n + 1) L k j = lift n (fn n L k) j := by
 rcases Nat.lt_trichotomy j n with h1 | h1 | h1
 · rw [lift_lt h1, fn_lt h1, fn_lt (by omega)]
 · subst h1; rw [lift_n, fn_lt (by omega), h.top (Int.le_refl _)]
 ·
  obtain rfl : j = n + 1 := by omega
  rw [lift_k, fn_k, fn_k]
def dd (r : Rat) : Rat := ((r.den : Int) : Rat)
def nn (r : Rat) : Rat := ((-r.num : Int) : Rat)
theorem mul_den (y : Rat) : y * dd y = ((y.num : Int) : Rat) := by
 have h : mkRat y.num y.den = y := Rat.mkRat_self y
 rw [Rat.mkRat_eq_div] at h
 have h0 : ((y.den : Nat) : Rat) ≠ 0 := fun e => y.den_nz (Rat.natCast_eq_zero_iff.1 e)
 unfold dd
 rw [Rat.intCast_natCast]
 calc y * ((y.den : Nat) : Rat) = ((y.num : Int) : Rat) / ((y.den : Nat) : Rat) * ((y.den : Nat) : Rat) := by rw [h]
  _ = _ := Rat.div_mul_cancel h0
theorem dd_ne (r : Rat) : dd r ≠ 0 := fun e => r.den_nz (by have := Rat.intCast_eq_zero_iff.1 e; omega)
theorem nn_eq (r : Rat) : nn r = -(r * dd r) := by rw [mul_den]; unfold nn; rw [Rat.intCast_neg]
def lsL (r : Rat) (L M : List (Int × Rat)) : List (Int × Rat) := addL (scaleL (dd r) L) (scaleL (nn r) M)
def lsK (r k m : Rat) : Rat := k * dd r + m * nn r
theorem fn_ls (n : Nat) (r : Rat) (L M : List (Int × Rat)) (k m : Rat) (j : Nat) : fn n (lsL r L M) (lsK r k m) j = fn n L k j * dd r + fn n M m j * nn r := by
 unfold fn
 split
 · rfl
 ·
  unfold lsL
  rw [co_add _ _ _ _ (Nat.le_refl _), co_scale, co_scale]
theorem ls_asc {N lo lo' v : Int} {q p : Rat} {L M : List (Int × Rat)} (hL : Asc N lo ((v, q) :: L)) (hM : Asc N lo' ((v, p) :: M)) : Asc N (v + 1) (lsL (q / p) ((v, q) :: L) ((v, p) :: M)) := by
 have hp := hM.2.2.1
 have hq := hL.2.2.1
 have e1 : q * dd (q / p) + p * nn (q / p) = 0 := by
  rw [nn_eq, Rat.mul_neg, ← Rat.mul_assoc, Rat.mul_comm p, Rat.div_mul_cancel hp, Rat.add_neg_cancel]
 have h1 : q * dd (q / p) ≠ 0 := fun e => by
  rcases Rat.mul_eq_zero.1 e with h | h
  · exact hq h
  · exact dd_ne _ h
 have h2 : p * nn (q / p) ≠ 0 := fun e => h1 (by rw [e, Rat.add_zero] at e1; exact e1)
 unfold lsL
 rw [scaleL, scaleL]
 generalize q * dd (q / p) = x at *
 generalize p * nn (q / p) = y at *
 rw [lay1, if_neg h1, lay1, if_neg h2, List.singleton_append, List.singleton_append, addL, if_neg (Int.lt_irrefl v), if_neg (Int.lt_irrefl v), e1, lay1_zero, List.nil_append]
 exact Asc.add _ _ _ _ (Nat.le_refl _) (hL.2.2.2.scale _) (hM.2.2.2.scale _)
def Fd (d E : Nat) (y : Rat) : Prop := ∃ z : Int, y * ((d : Int) : Rat) = ((z : Int) : Rat) ∧ z.natAbs ≤ E
theorem Fd.le {d E F : Nat} {y : Rat} (h : Fd d E y) (hF : E ≤ F) : Fd d F y := by
 obtain ⟨z, h1, h2⟩ := h; exact ⟨z, h1, Nat.le_trans h2 hF⟩
theorem Fd.zero (d E : Nat) : Fd d E 0 := ⟨0, by rw [Rat.zero_mul]; rfl, Nat.zero_le _⟩
theorem frac {y : Rat} {d : Nat} {z : Int} (hd : 0 < d) (h : y * ((d : Int) : Rat) = ((z : Int) : Rat)) : ∃ m : Nat, m ≠ 0 ∧ z = y.num * (m : Int) ∧ d = y.den * m := by
 have h0 : ((d : Nat) : Rat) ≠ 0 := fun e => by have := Rat.natCast_eq_zero_iff.1 e; omega
 rw [Rat.intCast_natCast] at h
 have e : mkRat z d = y := by
  rw [Rat.mkRat_eq_div, ← h, Rat.div_def, Rat.mul_assoc, Rat.mul_inv_cancel _ h0, Rat.mul_one]
 obtain ⟨n', d', z', c⟩ := y
 exact Rat.mkRat_num_den (by omega) e
theorem Fd.sz {d E p : Nat} {y : Rat} (h : Fd d E y) (hd : 0 < d) (hE : d ≤ E) (hp : Bd E p) : Sz y p := by
 obtain ⟨z, h1, h2⟩ := h
 obtain ⟨m, hm, e1, e2⟩ := frac hd h1
 refine ⟨hp.le (Nat.le_trans ?_ h2), hp.le (Nat.le_trans ?_ hE)⟩
 · rw [e1, Int.natAbs_mul, Int.natAbs_natCast]; exact Nat.le_mul_of_pos_right _ (by omega)
 · rw [e2]; exact Nat.le_mul_of_pos_right _ (by omega)
theorem cast_ne {d : Nat} (h : 0 < d) : ((d : Int) : Rat) ≠ 0 := fun e => by have := Rat.intCast_eq_zero_iff.1 e; omega
theorem Fd.ne {d E : Nat} {y : Rat} {z : Int} (hd : 0 < d) (h : y * ((d : Int) : Rat) = ((z : Int) : Rat)) (hy : y ≠ 0) : z ≠ 0 := fun e => by
 rw [e] at h
 rcases Rat.mul_eq_zero.1 h with h1 | h1
 · exact hy h1
 · exact cast_ne hd h1
theorem abs_cast (z : Int) : ∃ s : Int, (s = 1 ∨ s = -1) ∧ ((z.natAbs : Nat) : Int) = z * s := by
 rcases Int.le_total 0 z with h | h
 · exact ⟨1, .inl rfl, by omega⟩
 · exact ⟨-1, .inr rfl, by omega⟩
theorem ratio_frac {d E R : Nat} {q p : Rat} (hd : 0 < d) (hq : Fd d E q) (hp : Fd 1 R p) (hq0 : q ≠ 0) (hp0 : p ≠ 0) : ∃ (m : Nat) (r0 z1 : Int), 0 < m ∧ m ≤ E ∧ 0 < r0.natAbs ∧ r0.natAbs ≤ R ∧ z1.natAbs ≤ E ∧ z1 = (q / p).num * (m : Int) ∧ d * r0.natAbs = (q / p).den * m := by
 obtain ⟨z0, e0, b0⟩ := hq
 obtain ⟨r0, e1, b1⟩ := hp
 have n0 := Fd.ne (E := E) hd e0 hq0
 have n1 := Fd.ne (E := R) Nat.one_pos e1 hp0
 have e1' : p = ((r0 : Int) : Rat) := by rw [← e1]; exact (Rat.mul_one p).symm
 obtain ⟨s, hs, es⟩ := abs_cast r0
 have key : (q / p) * (((d * r0.natAbs : Nat) : Int) : Rat) = ((z0 * s : Int) : Rat) := by
  rw [Int.natCast_mul, es, Rat.intCast_mul, Rat.intCast_mul, Rat.intCast_mul, ← e0, ← e1', ← Rat.mul_assoc]
  have : q / p * ((d : Int) : Rat) * p = q * ((d : Int) : Rat) := by
   rw [Rat.mul_assoc, Rat.mul_comm ((d : Int) : Rat), ← Rat.mul_assoc, Rat.div_mul_cancel hp0]
  rw [← Rat.mul_assoc, this]
 obtain ⟨m, hm, g1, g2⟩ := frac (Nat.mul_pos hd (by omega)) key
 have bz : (z0 * s).natAbs ≤ E := by rcases hs with rfl | rfl <;> omega
 refine ⟨m, r0, z0 * s, by omega, ?_, by omega, b1, bz, g1, g2⟩
 have hz : z0 * s ≠ 0 := by rcases hs with rfl | rfl <;> omega
 have hn : (q / p).num.natAbs ≠ 0 := fun e => hz (by rw [g1, Int.natAbs_eq_zero.1 e, Int.zero_mul])
 refine Nat.le_trans ?_ bz
 rw [g1, Int.natAbs_mul, Int.natAbs_natCast]
 exact Nat.le_mul_of_pos_left _ (by omega)
def AllN (P : Rat → Prop) (L : List (Int × Rat)) : Prop := ∀ y ∈ L, P y.2
theorem AllN.lay {P : Rat → Prop} {v : Int} {q : Rat} (h : P q) : AllN P (lay1 v q) := by
 unfold lay1
 split
 · intro y hy; cases hy
 · intro y hy; rw [List.mem_singleton.1 hy]; exact h
theorem AllN.append {P : Rat → Prop} {a b : List (Int × Rat)} (ha : AllN P a) (hb : AllN P b) : AllN P (a ++ b) := fun y hy => by
 rcases List.mem_append.1 hy with h | h
 · exact ha y h
 · exact hb y h
theorem AllN.tail {P : Rat → Prop} {x : Int × Rat} {l : List (Int × Rat)} (h : AllN P (x :: l)) : AllN P l := fun y hy => h y (List.mem_cons_of_mem _ hy)
theorem AllN.scale {P Q : Rat → Prop} {k : Rat} (h : ∀ x, P x → Q (x * k)) : ∀ {l : List (Int × Rat)}, AllN P l → AllN Q (scaleL k l)
 | [], _ => fun y hy => by cases hy
 | (_, q) :: _, hl => (AllN.lay (h q (hl _ List.mem_cons_self))).append (AllN.scale h hl.tail)
theorem AllN.add {P Q T : Rat → Prop} (h1 : ∀ x, P x → T x) (h2 : ∀ x, Q x → T x) (h3 : ∀ x y, P x → Q y → T (x + y)) : ∀ (n : Nat) (a b : List (Int × Rat)), a.length + b.length ≤ n → AllN P a → AllN Q b → AllN T (addL a b) := by
 intro n
 induction n with
 |
  zero =>
  intro a b hn _ _
  have ha : a = [] := List.eq_nil_of_length_eq_zero (by omega)
  have hb : b = [] := List.eq_nil_of_length_eq_zero (by omega)
  subst ha hb; rw [addL]; intro y hy; cases hy
 |
  succ n ih =>
  intro a b hn ha hb
  match a, b with
  | [], [] => rw [addL]; intro y hy; cases hy
  | (v, p) :: a, [] => rw [addL]; exact (AllN.lay (h1 _ (ha _ List.mem_cons_self))).append (ih a [] (by simp at hn ⊢; omega) ha.tail hb)
  | [], (u, q) :: b => rw [addL]; exact (AllN.lay (h2 _ (hb _ List.mem_cons_self))).append (ih [] b (by simp at hn ⊢; omega) ha hb.tail)
  |
   (v, p) :: a, (u, q) :: b =>
   simp only [List.length_cons] at hn
   rw [addL]
   split
   · exact (AllN.lay (h1 _ (ha _ List.mem_cons_self))).append (ih a _ (by simp; omega) ha.tail hb)
   ·
    split
    · exact (AllN.lay (h2 _ (hb _ List.mem_cons_self))).append (ih _ b (by simp; omega) ha hb.tail)
    · exact (AllN.lay (h3 _ _ (ha _ List.mem_cons_self) (hb _ List.mem_cons_self))).append (ih a b (by omega) ha.tail hb.tail)
def Fr (E : Nat) (L : List (Int × Rat)) (k : Rat) : Prop := ∃ d, 0 < d ∧ d ≤ E ∧ AllN (Fd d E) L ∧ Fd d E k
def Wh (R : Nat) (L : List (Int × Rat)) (k : Rat) : Prop := AllN (Fd 1 R) L ∧ Fd 1 R k
theorem Fr.sz {E p : Nat} {L : List (Int × Rat)} {k : Rat} (h : Fr E L k) (hp : Bd E p) : SzL p L ∧ Sz k p := by
 obtain ⟨d, h1, h2, h3, h4⟩ := h
 exact ⟨fun y hy => (h3 y hy).sz h1 h2 hp, h4.sz h1 h2 hp⟩
theorem Wh.fr {R : Nat} {L : List (Int × Rat)} {k : Rat} (h : Wh R L k) (hR : 1 ≤ R) : Fr R L k := ⟨1, Nat.one_pos, hR, h.1, h.2⟩
theorem int_mul (z w : Int) : ((z : Int) : Rat) * ((w : Int) : Rat) = (((z * w : Int)) : Rat) := (Rat.intCast_mul z w).symm
theorem ls_fr {E R p : Nat} {v : Int} {q r k m : Rat} {L M : List (Int × Rat)} (hL : Fr E ((v, q) :: L) k) (hM : Wh R ((v, r) :: M) m) (hq : q ≠ 0) (hr : r ≠ 0) (hp : Bd (2 * (E * R)) p) :
  Fr (2 * (E * R)) (lsL (q / r) ((v, q) :: L) ((v, r) :: M)) (lsK (q / r) k m) ∧ Sz (q / r) p ∧ Sz (dd (q / r)) p ∧ Sz (nn (q / r)) p ∧ SzL p (scaleL (dd (q / r)) ((v, q) :: L)) ∧ Sz (k * dd (q / r)) p ∧ SzL p (scaleL (nn (q / r)) ((v, r) :: M)) ∧ Sz (m * nn (q / r)) p ∧ 1 ≤ R ∧ 1 ≤ E := by
 obtain ⟨d, hd, hdE, hL1, hL2⟩ := hL
 obtain ⟨g, r0, z1, hg, hgE, hr0, hrR, hz1, e1, e2⟩ := ratio_frac hd (hL1 _ List.mem_cons_self) (hM.1 _ List.mem_cons_self) hq hr
 generalize q / r = t at *
 have hER : E ≤ E * R := Nat.le_mul_of_pos_right _ (by omega)
 have hA : ∀ x, Fd d E x → Fd g (E * R) (x * dd t) := fun x hx => by
  obtain ⟨z, h1, h2⟩ := hx
  refine ⟨z * (r0.natAbs : Int), ?_, ?_⟩
  ·
   unfold dd
   rw [Rat.mul_assoc, int_mul, ← Int.natCast_mul, ← e2, Int.natCast_mul, ← int_mul, ← Rat.mul_assoc, h1, int_mul]
  · rw [Int.natAbs_mul, Int.natAbs_natCast]; exact Nat.mul_le_mul h2 hrR
 have hB : ∀ x, Fd 1 R x → Fd g (E * R) (x * nn t) := fun x hx => by
  obtain ⟨z, h1, h2⟩ := hx
  have h1' : x = ((z : Int) : Rat) := by rw [← h1]; exact (Rat.mul_one x).symm
  refine ⟨-(z * z1), ?_, ?_⟩
  ·
   unfold nn
   rw [Rat.mul_assoc, int_mul, h1', int_mul, e1]
   congr 1
   rw [Int.neg_mul, Int.mul_neg]
  · rw [Int.natAbs_neg, Int.natAbs_mul, Nat.mul_comm E R]; exact Nat.mul_le_mul h2 hz1
 have hC : ∀ x y, Fd g (E * R) x → Fd g (E * R) y → Fd g (2 * (E * R)) (x + y) := fun x y hx hy => by
  obtain ⟨z, h1, h2⟩ := hx
  obtain ⟨w, h3, h4⟩ := hy
  exact ⟨z + w, by rw [Rat.add_mul, h1, h3, Rat.intCast_add], by omega⟩
 have hS : ∀ x, Fd g (E * R) x → Sz x p := fun x hx => hx.sz hg (by omega) (hp.le (by omega))
 have sA := AllN.scale hA hL1
 have sB := AllN.scale hB hM.1
 have kA := hA _ hL2
 have kB := hB _ hM.2
 have b1 : t.den ≤ E * R := by
  have h1 : t.den ≤ t.den * g := Nat.le_mul_of_pos_right _ hg
  rw [← e2] at h1
  exact Nat.le_trans h1 (Nat.mul_le_mul hdE hrR)
 have b2 : t.num.natAbs ≤ E := by
  refine Nat.le_trans ?_ hz1
  rw [e1, Int.natAbs_mul, Int.natAbs_natCast]; exact Nat.le_mul_of_pos_right _ hg
 have hone : Bd 1 p := hp.le (by omega)
 refine ⟨⟨g, hg, by omega, ?_, hC _ _ kA kB⟩, ⟨hp.le (by omega), hp.le (by omega)⟩, ⟨?_, hone⟩, ⟨?_, hone⟩, fun y hy => hS _ (sA y hy), hS _ kA, fun y hy => hS _ (sB y hy), hS _ kB, by omega, by omega⟩
 · exact AllN.add (fun x hx => hx.le (by omega)) (fun x hx => hx.le (by omega)) hC _ _ _ (Nat.le_refl _) sA sB
 ·
  show Bd (((t.den : Int) : Rat).num).natAbs p
  rw [Rat.num_intCast, Int.natAbs_natCast]; exact hp.le (by omega)
 ·
  show Bd (((-t.num : Int) : Rat).num).natAbs p
  rw [Rat.num_intCast, Int.natAbs_neg]; exact hp.le (by omega)
end Go.Proofs.YtkfkjdpkkagjgaaGreat
