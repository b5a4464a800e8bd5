/-
  Plain linear algebra over the rationals, no program: sums, independent rows, how many of them span the same.
  Rows in stairs, no program: rows no two of which lead at the same place, what is left of another one when they are taken from it.
-/
import Derived.WalkKit
namespace Go.Proofs.YtgffkaconhonlaaGreat
set_option maxRecDepth 20000
def sm (f : Nat → Rat) : Nat → Rat
 | 0 => 0
 | n + 1 => sm f n + f n
theorem sm_congr {f g : Nat → Rat} : ∀ {n : Nat}, (∀ i, i < n → f i = g i) → sm f n = sm g n
 | 0, _ => rfl
 | n + 1, h => by rw [sm, sm, sm_congr fun i hi => h i (Nat.lt_succ_of_lt hi), h n (Nat.lt_succ_self n)]
theorem sm_zero : ∀ n : Nat, sm (fun _ => 0) n = 0
 | 0 => rfl
 | n + 1 => by rw [sm, sm_zero n, Rat.add_zero]
theorem sm_zero' {f : Nat → Rat} {n : Nat} (h : ∀ i, i < n → f i = 0) : sm f n = 0 := by rw [sm_congr h, sm_zero]
theorem add4 (a b c d : Rat) : a + b + (c + d) = a + c + (b + d) := by
 rw [Rat.add_assoc, Rat.add_assoc, ← Rat.add_assoc b c d, Rat.add_comm b c, Rat.add_assoc]
theorem sm_add (f g : Nat → Rat) : ∀ n : Nat, sm (fun i => f i + g i) n = sm f n + sm g n
 | 0 => by rw [sm, sm, sm, Rat.add_zero]
 | n + 1 => by rw [sm, sm, sm, sm_add f g n, add4]
theorem sm_mul (c : Rat) (f : Nat → Rat) : ∀ n : Nat, sm (fun i => c * f i) n = c * sm f n
 | 0 => by rw [sm, sm, Rat.mul_zero]
 | n + 1 => by rw [sm, sm, sm_mul c f n, Rat.mul_add]
theorem sm_mul' (c : Rat) (f : Nat → Rat) (n : Nat) : sm (fun i => f i * c) n = sm f n * c := by
 rw [Rat.mul_comm (sm f n) c, ← sm_mul]
 exact sm_congr fun i _ => Rat.mul_comm _ _
theorem sm_swap (a : Nat → Nat → Rat) (m : Nat) : ∀ n : Nat, sm (fun i => sm (fun j => a i j) m) n = sm (fun j => sm (fun i => a i j) n) m
 | 0 => by rw [sm]; exact (sm_zero m).symm
 |
  n + 1 => by
  rw [sm, sm_swap a m n, ← sm_add]
  rfl
theorem sm_single {f : Nat → Rat} {k : Nat} : ∀ {n : Nat}, (∀ i, i < n → i ≠ k → f i = 0) → k < n → sm f n = f k
 | 0, _, h => absurd h (Nat.not_lt_zero _)
 |
  n + 1, h, hk => by
  rw [sm]
  by_cases e : k = n
  ·
   subst e
   rw [sm_zero' fun i hi => h i (Nat.lt_succ_of_lt hi) (Nat.ne_of_lt hi), Rat.zero_add]
  · rw [sm_single (n := n) (fun i hi => h i (Nat.lt_succ_of_lt hi)) (by omega), h n (Nat.lt_succ_self n) (fun e' => e e'.symm), Rat.add_zero]
def skp1 (p i : Nat) : Nat := if i < p then i else i + 1
theorem sm_skip (f : Nat → Rat) (p : Nat) : ∀ n : Nat, p < n + 1 → sm f (n + 1) = sm (fun i => f (skp1 p i)) n + f p
 |
  0, h => by
  obtain rfl : p = 0 := by omega
  rfl
 |
  n + 1, h => by
  rw [sm]
  by_cases e : p = n + 1
  ·
   subst e
   rw [sm_congr (n := n + 1) (f := f) (g := fun i => f (skp1 (n + 1) i))]
   intro i hi
   unfold skp1
   rw [if_pos hi]
  ·
   rw [sm_skip f p n (by omega), sm, Rat.add_assoc, Rat.add_assoc, Rat.add_comm (f p)]
   have : skp1 p n = n + 1 := by unfold skp1; rw [if_neg (by omega)]
   rw [this]
theorem mul_sub' (a b c : Rat) : a * (b - c) = a * b - a * c := by
 rw [Rat.sub_eq_add_neg, Rat.mul_add, Rat.mul_neg, ← Rat.sub_eq_add_neg]
theorem sub_nil (a : Rat) : a - 0 = a := by rw [Rat.sub_eq_add_neg, Rat.neg_zero, Rat.add_zero]
theorem div_mul' {a b : Rat} (h : b ≠ 0) : a / b * b = a := Rat.div_mul_cancel h
theorem more_unknowns : ∀ (m r : Nat) (c : Nat → Nat → Rat), m < r → ∃ u : Nat → Rat, (∃ i, i < r ∧ u i ≠ 0) ∧ ∀ j, j < m → sm (fun i => u i * c i j) r = 0
 | 0, r, c, h => ⟨fun _ => 1, ⟨0, h, by decide⟩, fun j hj => absurd hj (Nat.not_lt_zero _)⟩
 |
  m + 1, r, c, h => by
  by_cases hz : ∃ p, p < r ∧ c p m ≠ 0
  ·
   obtain ⟨p, hp, hpm⟩ := hz
   obtain ⟨q, rfl⟩ : ∃ q, r = q + 1 := ⟨r - 1, by omega⟩
   obtain ⟨u, ⟨i0, hi0, hu0⟩, hu⟩ := more_unknowns m q (fun i j => c (skp1 p i) j - c (skp1 p i) m / c p m * c p j) (by omega)
   -- the unknown p takes what the others leave in column m
   let s : Rat := sm (fun i => u i * (c (skp1 p i) m / c p m)) q
   let w : Nat → Rat := fun i => if i = p then -s else if i < p then u i else u (i - 1)
   have hwp : w p = -s := by show (if p = p then _ else _) = _; rw [if_pos rfl]
   have hws : ∀ i, w (skp1 p i) = u i := by
    intro i
    show (if skp1 p i = p then _ else _) = _
    unfold skp1
    by_cases e : i < p
    · rw [if_pos e, if_neg (by omega), if_pos e]
    · rw [if_neg e, if_neg (by omega), if_neg (by omega), Nat.add_sub_cancel]
   have key : ∀ j, sm (fun i => w i * c i j) (q + 1) = sm (fun i => u i * (c (skp1 p i) j - c (skp1 p i) m / c p m * c p j)) q := by
    intro j
    rw [sm_skip _ p q hp, hwp]
    have e1 : sm (fun i => w (skp1 p i) * c (skp1 p i) j) q = sm (fun i => u i * c (skp1 p i) j) q := sm_congr fun i _ => by rw [hws]
    have e2 : sm (fun i => u i * (c (skp1 p i) j - c (skp1 p i) m / c p m * c p j)) q = sm (fun i => u i * c (skp1 p i) j + -(c p j) * (u i * (c (skp1 p i) m / c p m))) q := sm_congr fun i _ => by
     rw [mul_sub', Rat.sub_eq_add_neg, Rat.neg_mul, ← Rat.mul_assoc, Rat.mul_comm (c p j)]
    rw [e1, e2, sm_add, sm_mul, Rat.neg_mul, Rat.neg_mul, Rat.mul_comm]
   refine ⟨w, ?_, fun j hj => ?_⟩
   · refine ⟨skp1 p i0, by unfold skp1; split <;> omega, by rw [hws]; exact hu0⟩
   ·
    rw [key]
    by_cases e : j = m
    ·
     subst e
     refine sm_zero' fun i _ => ?_
     rw [div_mul' hpm, Rat.sub_self, Rat.mul_zero]
    · exact hu j (by omega)
  ·
   obtain ⟨u, hu0, hu⟩ := more_unknowns m r c (by omega)
   refine ⟨u, hu0, fun j hj => ?_⟩
   by_cases e : j = m
   ·
    subst e
    refine sm_zero' fun i hi => ?_
    have : c i j = 0 := Classical.not_not.1 fun hne => hz ⟨i, hi, hne⟩
    rw [this, Rat.mul_zero]
   · exact hu j (by omega)
def Comb (n : Nat) (B : Nat → Nat → Rat) (r : Nat) (v : Nat → Rat) : Prop := ∃ u : Nat → Rat, ∀ j, j < n → v j = sm (fun i => u i * B i j) r
def Ind (n : Nat) (B : Nat → Nat → Rat) (r : Nat) : Prop := ∀ u : Nat → Rat, (∀ j, j < n → sm (fun i => u i * B i j) r = 0) → ∀ i, i < r → u i = 0
theorem ind_le {n r r' : Nat} {B B' : Nat → Nat → Rat} (h : Ind n B r) (hc : ∀ i, i < r → Comb n B' r' (B i)) : r ≤ r' := by
 rcases Nat.lt_or_ge r' r with hlt | hge
 ·
  exfalso
  have hc' : ∀ i, ∃ u : Nat → Rat, i < r → ∀ j, j < n → B i j = sm (fun k => u k * B' k j) r' := fun i => by
   by_cases hi : i < r
   · obtain ⟨u, hu⟩ := hc i hi; exact ⟨u, fun _ => hu⟩
   · exact ⟨fun _ => 0, fun h => absurd h hi⟩
  obtain ⟨c, hcc⟩ := Classical.axiomOfChoice hc'
  obtain ⟨u, ⟨i0, hi0, hu0⟩, hu⟩ := more_unknowns r' r c hlt
  refine hu0 (h u (fun j hj => ?_) i0 hi0)
  have e1 : sm (fun i => u i * B i j) r = sm (fun i => sm (fun k => u i * c i k * B' k j) r') r := sm_congr fun i hi => by
   rw [hcc i hi j hj, ← sm_mul]
   exact sm_congr fun k _ => (Rat.mul_assoc _ _ _).symm
  rw [e1, sm_swap]
  refine sm_zero' fun k hk => ?_
  have := hu k hk
  rw [sm_mul' (B' k j) (fun i => u i * c i k), this, Rat.zero_mul]
 · exact hge
def dot (n : Nat) (f x : Nat → Rat) : Rat := sm (fun i => f i * x i) n + f n
def lss (a b : Nat → Rat) (c : Rat) : Nat → Rat := fun j => a j - c * b j
def tms (a : Nat → Rat) (c : Rat) : Nat → Rat := fun j => a j * c
theorem lss_eq (a b : Nat → Rat) (c : Rat) (j : Nat) : lss a b c j = a j + -c * b j := by
 show a j - c * b j = _
 rw [Rat.sub_eq_add_neg, Rat.neg_mul]
theorem dot_lss (n : Nat) (a b : Nat → Rat) (c : Rat) (x : Nat → Rat) : dot n (lss a b c) x = dot n a x - c * dot n b x := by
 have e : sm (fun i => lss a b c i * x i) n = sm (fun i => a i * x i + -c * (b i * x i)) n := sm_congr fun i _ => by
  rw [lss_eq, Rat.add_mul, Rat.mul_assoc]
 unfold dot
 rw [e, sm_add, sm_mul, lss_eq, Rat.sub_eq_add_neg, ← Rat.neg_mul, Rat.mul_add, add4]
theorem dot_tms (n : Nat) (a : Nat → Rat) (c : Rat) (x : Nat → Rat) : dot n (tms a c) x = dot n a x * c := by
 have e : sm (fun i => tms a c i * x i) n = sm (fun i => a i * x i * c) n := sm_congr fun i _ => by
  show a i * c * x i = _
  rw [Rat.mul_assoc, Rat.mul_comm c, ← Rat.mul_assoc]
 unfold dot
 rw [e, sm_mul', Rat.add_mul]; rfl
def ld (a : Nat → Rat) : Nat → Nat → Nat
 | 0, k => k
 | f + 1, k => if a k = 0 then ld a f (k + 1) else k
theorem ld_spec (a : Nat → Rat) : ∀ (f k : Nat), k ≤ ld a f k ∧ ld a f k ≤ k + f ∧ (∀ j, k ≤ j → j < ld a f k → a j = 0) ∧ (ld a f k < k + f → a (ld a f k) ≠ 0)
 | 0, k => ⟨Nat.le_refl _, Nat.le_refl _, fun j h1 h2 => absurd h2 (by show ¬ j < k; omega), fun h => absurd h (Nat.lt_irrefl _)⟩
 |
  f + 1, k => by
  rw [ld]
  split
  ·
   next h =>
   obtain ⟨h1, h2, h3, h4⟩ := ld_spec a f (k + 1)
   refine ⟨by omega, by omega, fun j hj hj2 => ?_, fun h' => h4 (by omega)⟩
   by_cases e : j = k
   · subst e; exact h
   · exact h3 j (by omega) hj2
  · next h => exact ⟨Nat.le_refl _, by omega, fun j h1 h2 => absurd h2 (by omega), fun _ => h⟩
def lead (n : Nat) (a : Nat → Rat) : Nat := ld a n 0
theorem lead_le (n : Nat) (a : Nat → Rat) : lead n a ≤ n := by have := (ld_spec a n 0).2.1; unfold lead; omega
theorem lead_zero {n : Nat} {a : Nat → Rat} {j : Nat} (h : j < lead n a) : a j = 0 := (ld_spec a n 0).2.2.1 j (Nat.zero_le _) h
theorem lead_ne {n : Nat} {a : Nat → Rat} (h : lead n a < n) : a (lead n a) ≠ 0 := (ld_spec a n 0).2.2.2 (by unfold lead at h; omega)
theorem lead_of {n k : Nat} {a : Nat → Rat} (hk : k < n) (h0 : ∀ j, j < k → a j = 0) (h : a k ≠ 0) : lead n a = k := by
 rcases Nat.lt_trichotomy (lead n a) k with h1 | h1 | h1
 · exact absurd (h0 _ h1) (lead_ne (by omega))
 · exact h1
 · exact absurd (lead_zero h1) h
theorem lead_all {n : Nat} {a : Nat → Rat} : lead n a = n ↔ ∀ j, j < n → a j = 0 := by
 constructor
 · intro h j hj; exact lead_zero (n := n) (by omega)
 ·
  intro h
  rcases Nat.lt_or_ge (lead n a) n with h1 | h1
  · exact absurd (h _ h1) (lead_ne h1)
  · have := lead_le n a; omega
def red (n : Nat) : List (Nat → Rat) → (Nat → Rat) → (Nat → Rat)
 | [], a => a
 | r :: R, a => red n R (lss a r (a (lead n r)))
structure Good (n : Nat) (R : List (Nat → Rat)) : Prop where
 lt : ∀ r ∈ R, lead n r < n
 one : ∀ r ∈ R, r (lead n r) = 1
 two : R.Pairwise fun r s => s (lead n r) = 0 ∧ r (lead n s) = 0
def Sat (n : Nat) (S : List (Nat → Rat)) (x : Nat → Rat) : Prop := ∀ e ∈ S, dot n e x = 0
theorem red_dot {n : Nat} {x : Nat → Rat} : ∀ {R : List (Nat → Rat)} (a : Nat → Rat), Sat n R x → dot n (red n R a) x = dot n a x
 | [], _, _ => rfl
 |
  r :: R, a, h => by
  rw [red, red_dot (R := R) _ (fun e he => h e (List.mem_cons_of_mem _ he)), dot_lss, h r List.mem_cons_self, Rat.mul_zero, Rat.sub_eq_add_neg, Rat.neg_zero, Rat.add_zero]
theorem red_keep {n j : Nat} : ∀ {R : List (Nat → Rat)} {a : Nat → Rat}, a j = 0 → (∀ r ∈ R, r j = 0) → red n R a j = 0
 | [], _, h, _ => h
 |
  r :: R, a, h, hR => by
  rw [red]
  refine red_keep ?_ fun s hs => hR s (List.mem_cons_of_mem _ hs)
  show a j - a (lead n r) * r j = 0
  rw [h, hR r List.mem_cons_self, Rat.mul_zero, Rat.sub_self]
theorem red_lead {n : Nat} : ∀ {R : List (Nat → Rat)} (a : Nat → Rat), (∀ r ∈ R, r (lead n r) = 1) → (R.Pairwise fun r s => s (lead n r) = 0 ∧ r (lead n s) = 0) → ∀ r ∈ R, red n R a (lead n r) = 0
 | [], _, _, _, _, h => by cases h
 |
  r :: R, a, h1, h2, s, hs => by
  rw [red]
  rw [List.pairwise_cons] at h2
  rcases List.mem_cons.1 hs with rfl | hs
  ·
   refine red_keep ?_ fun t ht => (h2.1 t ht).1
   show a (lead n s) - a (lead n s) * s (lead n s) = 0
   rw [h1 s List.mem_cons_self, Rat.mul_one, Rat.sub_self]
  · exact red_lead _ (fun t ht => h1 t (List.mem_cons_of_mem _ ht)) h2.2 s hs
inductive Sp (n : Nat) (S : List (Nat → Rat)) : (Nat → Rat) → Prop
 | zero {v : Nat → Rat} (h : ∀ j, j < n → v j = 0) : Sp n S v
 | step {v u s : Nat → Rat} (c : Rat) (hv : Sp n S v) (hs : s ∈ S) (h : ∀ j, j < n → u j = v j + c * s j) : Sp n S u
theorem Sp.congr {n : Nat} {S : List (Nat → Rat)} {v u : Nat → Rat} (h : Sp n S v) (e : ∀ j, j < n → u j = v j) : Sp n S u := by
 cases h with
 | zero h => exact .zero fun j hj => by rw [e j hj, h j hj]
 | step c hv hs h => exact .step c hv hs fun j hj => by rw [e j hj, h j hj]
theorem Sp.mem {n : Nat} {S : List (Nat → Rat)} {s : Nat → Rat} (h : s ∈ S) : Sp n S s := .step (v := fun _ => 0) 1 (.zero fun _ _ => rfl) h fun j _ => by rw [Rat.one_mul, Rat.zero_add]
theorem Sp.add {n : Nat} {S : List (Nat → Rat)} {v w : Nat → Rat} (hv : Sp n S v) (hw : Sp n S w) : Sp n S fun j => v j + w j := by
 induction hw with
 | zero h => exact hv.congr fun j hj => by rw [h j hj, Rat.add_zero]
 | step c _ hs h ih => exact .step c ih hs fun j hj => by rw [h j hj, Rat.add_assoc]
theorem Sp.mul {n : Nat} {S : List (Nat → Rat)} {v : Nat → Rat} (d : Rat) (hv : Sp n S v) : Sp n S fun j => v j * d := by
 induction hv with
 | zero h => exact .zero fun j hj => by rw [h j hj, Rat.zero_mul]
 |
  step c _ hs h ih =>
  refine .step (c * d) ih hs fun j hj => ?_
  rw [h j hj, Rat.add_mul]
  congr 1
  rw [Rat.mul_assoc, Rat.mul_comm _ d, ← Rat.mul_assoc]
theorem Sp.lss {n : Nat} {S : List (Nat → Rat)} {v w : Nat → Rat} (c : Rat) (hv : Sp n S v) (hw : Sp n S w) : Sp n S (lss v w c) :=
 (hv.add (hw.mul (-c))).congr fun j _ => by rw [lss_eq, Rat.mul_comm]
theorem Sp.trans {n : Nat} {S T : List (Nat → Rat)} {v : Nat → Rat} (hv : Sp n S v) (h : ∀ s ∈ S, Sp n T s) : Sp n T v := by
 induction hv with
 | zero h => exact .zero h
 | step c _ hs h' ih => exact (ih.add ((h _ hs).mul c)).congr fun j hj => by rw [h' j hj, Rat.mul_comm]
theorem Sp.more {n : Nat} {S T : List (Nat → Rat)} {v : Nat → Rat} (hv : Sp n S v) (h : ∀ s ∈ S, s ∈ T) : Sp n T v := hv.trans fun s hs => .mem (h s hs)
theorem red_sp {n : Nat} {T : List (Nat → Rat)} : ∀ {R : List (Nat → Rat)} {a : Nat → Rat}, (∀ r ∈ R, Sp n T r) → Sp n T a → Sp n T (red n R a)
 | [], _, _, h => h
 | r :: R, _, hR, h => red_sp (R := R) (fun s hs => hR s (List.mem_cons_of_mem _ hs)) (h.lss _ (hR r List.mem_cons_self))
theorem red_back {n : Nat} {T : List (Nat → Rat)} : ∀ {R : List (Nat → Rat)} {a : Nat → Rat}, (∀ r ∈ R, Sp n T r) → Sp n T (red n R a) → Sp n T a
 | [], _, _, h => h
 |
  r :: R, a, hR, h => by
  have h1 := red_back (R := R) (fun s hs => hR s (List.mem_cons_of_mem _ hs)) h
  exact (h1.add ((hR r List.mem_cons_self).mul (a (lead n r)))).congr fun j _ => by
   rw [lss_eq, Rat.add_assoc, Rat.neg_mul, Rat.mul_comm (r j), Rat.neg_add_cancel, Rat.add_zero]
theorem sp_comb {n : Nat} {S : List (Nat → Rat)} {v : Nat → Rat} (h : Sp n S v) : Comb n (fun i => (S[i]?).getD fun _ => 0) S.length v := by
 induction h with
 | zero h => exact ⟨fun _ => 0, fun j hj => by rw [h j hj, sm_zero' fun i _ => Rat.zero_mul _]⟩
 |
  @step v u s c _ hs h ih =>
  obtain ⟨w, hw⟩ := ih
  obtain ⟨k, hk, e⟩ := List.getElem_of_mem hs
  refine ⟨fun i => w i + if i = k then c else 0, fun j hj => ?_⟩
  have e1 : sm (fun i => (w i + if i = k then c else 0) * ((S[i]?).getD fun _ => 0) j) S.length = sm (fun i => w i * ((S[i]?).getD fun _ => 0) j + (if i = k then c else 0) * ((S[i]?).getD fun _ => 0) j) S.length := sm_congr fun i _ => Rat.add_mul _ _ _
  rw [e1, sm_add, ← hw j hj, sm_single (k := k) (fun i _ hne => by rw [if_neg hne, Rat.zero_mul]) hk, if_pos rfl, h j hj, List.getElem?_eq_getElem hk, e]
  rfl
structure Basis (n : Nat) (S R : List (Nat → Rat)) : Prop where
 ind : Ind n (fun i => (R[i]?).getD fun _ => 0) R.length
 down : ∀ r ∈ R, Sp n S r
 up : ∀ s ∈ S, Sp n R s
theorem Basis.le {n : Nat} {S T R Q : List (Nat → Rat)} (h : Basis n S R) (h' : Basis n T Q) (hST : ∀ s ∈ S, Sp n T s) : R.length ≤ Q.length := by
 refine ind_le (B' := fun i => (Q[i]?).getD fun _ => 0) h.ind fun i hi => ?_
 show Comb n _ _ ((R[i]?).getD fun _ => 0)
 rw [List.getElem?_eq_getElem hi]
 exact sp_comb (((h.down _ (List.getElem_mem hi)).trans hST).trans h'.up)
theorem Basis.same {n : Nat} {S T R Q : List (Nat → Rat)} (h : Basis n S R) (h' : Basis n T Q) (hST : ∀ s ∈ S, Sp n T s) (hTS : ∀ t ∈ T, Sp n S t) : R.length = Q.length :=
 Nat.le_antisymm (h.le h' hST) (h'.le h hTS)
theorem Good.ind {n : Nat} {R : List (Nat → Rat)} (h : Good n R) : Ind n (fun i => (R[i]?).getD fun _ => 0) R.length := by
 intro u hu i hi
 have hm := List.getElem_mem hi
 have h0 : sm (fun k => u k * ((R[k]?).getD fun _ => 0) (lead n R[i])) R.length = 0 := hu (lead n R[i]) (h.lt _ hm)
 rw [sm_single (k := i) (fun k hk hne => ?_) hi] at h0
 ·
  have h2 : u i * R[i] (lead n R[i]) = 0 := by rw [List.getElem?_eq_getElem hi] at h0; exact h0
  rw [h.one _ hm, Rat.mul_one] at h2
  exact h2
 ·
  have hp := List.pairwise_iff_getElem.1 h.two
  rw [List.getElem?_eq_getElem hk]
  show u k * R[k] (lead n R[i]) = 0
  have : R[k] (lead n R[i]) = 0 := by
   rcases Nat.lt_or_gt_of_ne hne with h1 | h1
   · exact (hp k i hk hi h1).2
   · exact (hp i k hi hk h1).1
  rw [this, Rat.mul_zero]
def stepS (n : Nat) (R : List (Nat → Rat)) (ok : Bool) (e : Nat → Rat) : List (Nat → Rat) × Bool :=
 if lead n (red n R e) = n then (R, ok && decide (red n R e n = 0))
 else (R.map (fun r => lss r (tms (red n R e) (1 / red n R e (lead n (red n R e)))) (r (lead n (red n R e)))) ++ [tms (red n R e) (1 / red n R e (lead n (red n R e)))], ok)
def solveS (n : Nat) : List (Nat → Rat) → List (Nat → Rat) → Bool → List (Nat → Rat) × Bool
 | [], R, ok => (R, ok)
 | e :: S, R, ok => solveS n S (stepS n R ok e).1 (stepS n R ok e).2
structure Inv (n : Nat) (S R : List (Nat → Rat)) (ok : Bool) : Prop where
 good : Good n R
 down : ∀ r ∈ R, Sp n S r
 up : ∀ s ∈ S, Sp n R s
 sat : ∀ x, Sat n S x → Sat n R x
 back : ok = true → ∀ x, Sat n R x → Sat n S x
 bad : ok = false → ∀ x, ¬ Sat n S x
theorem sat_snoc {n : Nat} {S : List (Nat → Rat)} {e x : Nat → Rat} : Sat n (S ++ [e]) x ↔ Sat n S x ∧ dot n e x = 0 := by
 constructor
 · intro h; exact ⟨fun s hs => h s (List.mem_append_left _ hs), h e (by simp)⟩
 ·
  rintro ⟨h1, h2⟩ s hs
  rcases List.mem_append.1 hs with hs | hs
  · exact h1 s hs
  · rw [List.mem_singleton.1 hs]; exact h2
theorem dot_zero {n : Nat} {a x : Nat → Rat} (h : ∀ j, j < n → a j = 0) : dot n a x = a n := by
 unfold dot
 rw [sm_zero' fun i hi => by rw [h i hi, Rat.zero_mul], Rat.zero_add]
theorem Inv.nil (n : Nat) : Inv n [] [] true :=
 ⟨⟨fun r h => (by cases h), fun r h => (by cases h), List.Pairwise.nil⟩, fun r h => (by cases h), fun r h => (by cases h), fun _ h => h, fun _ _ h => h, fun h => (by cases h)⟩
theorem Inv.step {n : Nat} {S R : List (Nat → Rat)} {ok : Bool} (h : Inv n S R ok) (e : Nat → Rat) : Inv n (S ++ [e]) (stepS n R ok e).1 (stepS n R ok e).2 := by
 have hsub : ∀ s ∈ S, Sp n (S ++ [e]) s := fun s hs => .mem (List.mem_append_left _ hs)
 have hdn : ∀ r ∈ R, Sp n (S ++ [e]) r := fun r hr => (h.down r hr).trans hsub
 have hae : Sp n (S ++ [e]) (red n R e) := red_sp hdn (.mem (by simp))
 unfold stepS
 split
 ·
  next hl =>
  have hz := lead_all.1 hl
  refine ⟨h.good, hdn, fun s hs => ?_, fun x hx => h.sat x (sat_snoc.1 hx).1, fun hok x hx => ?_, fun hok x hx => ?_⟩
  ·
   rcases List.mem_append.1 hs with hs | hs
   · exact h.up s hs
   · rw [List.mem_singleton.1 hs]; exact red_back (fun r hr => .mem hr) (.zero hz)
  ·
   simp only [Bool.and_eq_true, decide_eq_true_eq] at hok
   refine sat_snoc.2 ⟨h.back hok.1 x hx, ?_⟩
   rw [← red_dot e hx, dot_zero hz]; exact hok.2
  ·
   obtain ⟨h1, h2⟩ := sat_snoc.1 hx
   cases ok with
   | false => exact h.bad rfl x h1
   |
    true =>
    have hr := h.sat x h1
    rw [← red_dot e hr, dot_zero hz] at h2
    simp [h2] at hok
 ·
  next hl =>
  have hk : lead n (red n R e) < n := by have := lead_le n (red n R e); omega
  have ha := lead_ne hk
  have hz : ∀ j, j < lead n (red n R e) → red n R e j = 0 := fun j hj => lead_zero hj
  have hR0 := red_lead e h.good.one h.good.two
  have hdot : ∀ x, Sat n R x → dot n (red n R e) x = dot n e x := fun x hx => red_dot e hx
  have heb : Sp n R (red n R e) → Sp n R e := red_back fun r hr => .mem hr
  have heb2 : ∀ T, (∀ r ∈ R, Sp n T r) → Sp n T (red n R e) → Sp n T e := fun T hT => red_back hT
  generalize lead n (red n R e) = k at *
  generalize red n R e = a at *
  clear hl heb
  obtain ⟨t, ht⟩ : ∃ t, t = tms a (1 / a k) := ⟨_, rfl⟩
  have hca : 1 / a k * a k = 1 := div_mul' ha
  have tk : t k = 1 := by rw [ht]; show a k * (1 / a k) = 1; rw [Rat.mul_comm]; exact hca
  have tz : ∀ j, j < k → t j = 0 := fun j hj => by rw [ht]; show a j * _ = 0; rw [hz j hj, Rat.zero_mul]
  have tR : ∀ r ∈ R, t (lead n r) = 0 := fun r hr => by rw [ht]; show a _ * _ = 0; rw [hR0 r hr, Rat.zero_mul]
  have ta : ∀ j, a j = t j * a k := fun j => by rw [ht]; show a j = a j * (1 / a k) * a k; rw [Rat.mul_assoc, hca, Rat.mul_one]
  have dt : ∀ x, dot n a x = dot n t x * a k := fun x => by rw [ht, dot_tms, Rat.mul_assoc, hca, Rat.mul_one]
  have lt : lead n t = k := lead_of hk tz (by rw [tk]; decide)
  have hat : Sp n (S ++ [e]) t := by rw [ht]; exact hae.mul _
  rw [← ht]
  clear ht
  have lr : ∀ r ∈ R, lead n (lss r t (r k)) = lead n r := fun r hr => by
   have hl := h.good.lt r hr
   have hne : k ≠ lead n r := fun e' => by have := hR0 r hr; rw [← e'] at this; exact ha this
   refine lead_of hl (fun j hj => ?_) ?_
   ·
    show r j - r k * t j = 0
    rw [lead_zero hj]
    rcases Nat.lt_or_ge k (lead n r) with h1 | h1
    · rw [lead_zero h1, Rat.zero_mul, Rat.sub_self]
    · rw [tz j (by omega), Rat.mul_zero, Rat.sub_self]
   ·
    show r _ - r k * t _ ≠ 0
    rw [tR r hr, h.good.one r hr, Rat.mul_zero, sub_nil]; decide
  have one' : ∀ r ∈ R, lss r t (r k) (lead n r) = 1 := fun r hr => by
   show r _ - r k * t _ = 1
   rw [tR r hr, h.good.one r hr, Rat.mul_zero, sub_nil]
  have zk : ∀ r : Nat → Rat, lss r t (r k) k = 0 := fun r => by
   show r k - r k * t k = 0
   rw [tk, Rat.mul_one, Rat.sub_self]
  have hT : ∀ r ∈ R, Sp n (R.map (fun r => lss r t (r k)) ++ [t]) r := fun r hr => by
   have h1 : Sp n (R.map (fun r => lss r t (r k)) ++ [t]) (lss r t (r k)) := .mem (List.mem_append_left _ (List.mem_map.2 ⟨r, hr, rfl⟩))
   have h2 : Sp n (R.map (fun r => lss r t (r k)) ++ [t]) t := .mem (by simp)
   exact (h1.add (h2.mul (r k))).congr fun j _ => by
    rw [lss_eq, Rat.add_assoc, Rat.neg_mul, Rat.mul_comm (t j), Rat.neg_add_cancel, Rat.add_zero]
  have hSat : ∀ x, Sat n (R.map (fun r => lss r t (r k)) ++ [t]) x ↔ Sat n R x ∧ dot n t x = 0 := fun x => by
   constructor
   ·
    intro hx
    have h1 : dot n t x = 0 := hx t (by simp)
    refine ⟨fun r hr => ?_, h1⟩
    have h2 := hx _ (List.mem_append_left _ (List.mem_map.2 ⟨r, hr, rfl⟩))
    rw [dot_lss, h1, Rat.mul_zero, Rat.sub_eq_add_neg, Rat.neg_zero, Rat.add_zero] at h2
    exact h2
   ·
    rintro ⟨h1, h2⟩ s hs
    rcases List.mem_append.1 hs with hs | hs
    ·
     obtain ⟨r, hr, rfl⟩ := List.mem_map.1 hs
     rw [dot_lss, h1 r hr, h2, Rat.mul_zero, Rat.sub_self]
    · rw [List.mem_singleton.1 hs]; exact h2
  refine ⟨⟨fun s hs => ?_, fun s hs => ?_, ?_⟩, fun s hs => ?_, fun s hs => ?_, fun x hx => ?_, fun hok x hx => ?_, fun hok x hx => ?_⟩
  ·
   rcases List.mem_append.1 hs with hs | hs
   ·
    obtain ⟨r, hr, rfl⟩ := List.mem_map.1 hs
    rw [lr r hr]; exact h.good.lt r hr
   · rw [List.mem_singleton.1 hs, lt]; exact hk
  ·
   rcases List.mem_append.1 hs with hs | hs
   ·
    obtain ⟨r, hr, rfl⟩ := List.mem_map.1 hs
    rw [lr r hr]; exact one' r hr
   · rw [List.mem_singleton.1 hs, lt]; exact tk
  ·
   rw [List.pairwise_append]
   refine ⟨?_, List.pairwise_singleton _ _, fun s hs u hu => ?_⟩
   ·
    rw [List.pairwise_map]
    refine h.good.two.imp_of_mem fun {r s} hr hs hrs => ?_
    rw [lr r hr, lr s hs]
    refine ⟨?_, ?_⟩
    ·
     show s _ - s k * t _ = 0
     rw [hrs.1, tR r hr, Rat.mul_zero, Rat.sub_self]
    ·
     show r _ - r k * t _ = 0
     rw [hrs.2, tR s hs, Rat.mul_zero, Rat.sub_self]
   ·
    obtain ⟨r, hr, rfl⟩ := List.mem_map.1 hs
    rw [List.mem_singleton.1 hu, lr r hr, lt]
    exact ⟨tR r hr, zk r⟩
  ·
   rcases List.mem_append.1 hs with hs | hs
   ·
    obtain ⟨r, hr, rfl⟩ := List.mem_map.1 hs
    exact (hdn r hr).lss _ hat
   · rw [List.mem_singleton.1 hs]; exact hat
  ·
   rcases List.mem_append.1 hs with hs | hs
   · exact (h.up s hs).trans hT
   ·
    rw [List.mem_singleton.1 hs]
    refine heb2 _ hT ?_
    have h2 : Sp n (R.map (fun r => lss r t (r k)) ++ [t]) t := .mem (by simp)
    exact (h2.mul (a k)).congr fun j _ => ta j
  ·
   obtain ⟨h1, h2⟩ := sat_snoc.1 hx
   have h3 := h.sat x h1
   refine (hSat x).2 ⟨h3, ?_⟩
   have h4 := hdot x h3
   rw [h2, dt] at h4
   rcases Rat.mul_eq_zero.1 h4 with h5 | h5
   · exact h5
   · exact absurd h5 ha
  ·
   obtain ⟨h1, h2⟩ := (hSat x).1 hx
   refine sat_snoc.2 ⟨h.back hok x h1, ?_⟩
   rw [← hdot x h1, dt, h2, Rat.zero_mul]
  · exact h.bad hok x (sat_snoc.1 hx).1
theorem solveS_inv {n : Nat} : ∀ (S T R : List (Nat → Rat)) (ok : Bool), Inv n T R ok → Inv n (T ++ S) (solveS n S R ok).1 (solveS n S R ok).2
 | [], T, R, ok, h => by rw [List.append_nil]; exact h
 |
  e :: S, T, R, ok, h => by
  have h1 := solveS_inv S (T ++ [e]) _ _ (h.step e)
  rw [List.append_assoc] at h1
  exact h1
def pnt (n : Nat) (y : Nat → Rat) : List (Nat → Rat) → Nat → Rat
 | [], j => y j
 | r :: R, j => if j = lead n r then -(dot n r y) else pnt n y R j
theorem pnt_free {n : Nat} {y : Nat → Rat} {j : Nat} : ∀ {R : List (Nat → Rat)}, (∀ r ∈ R, j ≠ lead n r) → pnt n y R j = y j
 | [], _ => rfl
 | r :: R, h => by rw [pnt, if_neg (h r List.mem_cons_self), pnt_free fun s hs => h s (List.mem_cons_of_mem _ hs)]
theorem pnt_lead {n : Nat} {y : Nat → Rat} : ∀ {R : List (Nat → Rat)}, Good n R → ∀ r ∈ R, pnt n y R (lead n r) = -(dot n r y)
 | [], _, _, h => by cases h
 |
  s :: R, hg, r, hr => by
  have h2 := List.pairwise_cons.1 hg.two
  rcases List.mem_cons.1 hr with rfl | hr'
  · rw [pnt, if_pos rfl]
  ·
   have hne : lead n r ≠ lead n s := fun e => by
    have h1 := (h2.1 r hr').1
    rw [← e, hg.one r hr] at h1
    exact absurd h1 (by decide)
   rw [pnt, if_neg hne, pnt_lead ⟨fun t ht => hg.lt t (List.mem_cons_of_mem _ ht), fun t ht => hg.one t (List.mem_cons_of_mem _ ht), h2.2⟩ r hr']
theorem dot_diff (n : Nat) (f x y : Nat → Rat) : dot n f x = dot n f y + sm (fun i => f i * (x i - y i)) n := by
 have e : sm (fun i => f i * x i) n = sm (fun i => f i * y i + f i * (x i - y i)) n := sm_congr fun i _ => by
  rw [mul_sub', Rat.sub_eq_add_neg, Rat.add_comm, Rat.add_assoc, Rat.neg_add_cancel, Rat.add_zero]
 unfold dot
 rw [e, sm_add, Rat.add_assoc, Rat.add_assoc, Rat.add_comm (f n)]
theorem Good.zero {n : Nat} {R : List (Nat → Rat)} (h : Good n R) : ∀ r ∈ R, ∀ s ∈ R, lead n r ≠ lead n s → r (lead n s) = 0 := by
 intro r hr s hs hne
 obtain ⟨i, hi, rfl⟩ := List.getElem_of_mem hr
 obtain ⟨j, hj, rfl⟩ := List.getElem_of_mem hs
 have hp := List.pairwise_iff_getElem.1 h.two
 rcases Nat.lt_trichotomy i j with h1 | h1 | h1
 · exact (hp i j hi hj h1).2
 · subst h1; exact absurd rfl hne
 · exact (hp j i hj hi h1).1
theorem pnt_dot {n : Nat} {R : List (Nat → Rat)} {f y : Nat → Rat} (hf : ∀ r ∈ R, f (lead n r) = 0) : dot n f (pnt n y R) = dot n f y := by
 rw [dot_diff n f _ y, sm_zero' fun i hi => ?_, Rat.add_zero]
 by_cases h : ∃ r ∈ R, i = lead n r
 ·
  obtain ⟨r, hr, rfl⟩ := h
  rw [hf r hr, Rat.zero_mul]
 · rw [pnt_free fun r hr e => h ⟨r, hr, e⟩, Rat.sub_self, Rat.mul_zero]
theorem pnt_sat {n : Nat} {R : List (Nat → Rat)} {y : Nat → Rat} (hg : Good n R) (hy : ∀ r ∈ R, y (lead n r) = 0) : Sat n R (pnt n y R) := by
 intro r hr
 rw [dot_diff n r _ y, sm_single (k := lead n r) (fun i hi hne => ?_) (hg.lt r hr), hg.one r hr, Rat.one_mul, pnt_lead hg r hr, hy r hr, Rat.sub_eq_add_neg, Rat.neg_zero, Rat.add_zero, Rat.add_neg_cancel]
 by_cases h : ∃ s ∈ R, i = lead n s
 ·
  obtain ⟨s, hs, rfl⟩ := h
  rw [hg.zero r hr s hs (fun e => hne e.symm), Rat.zero_mul]
 · rw [pnt_free fun s hs e => h ⟨s, hs, e⟩, Rat.sub_self, Rat.mul_zero]
theorem Inv.cons {n : Nat} {S R : List (Nat → Rat)} {ok : Bool} (h : Inv n S R ok) : ok = true ↔ ∃ x, Sat n S x := by
 constructor
 ·
  intro hok
  exact ⟨_, h.back hok _ (pnt_sat (y := fun _ => 0) h.good fun _ _ => rfl)⟩
 ·
  rintro ⟨x, hx⟩
  cases ok with
  | true => rfl
  | false => exact absurd hx (h.bad rfl x)
def off_ (n : Nat) (R : List (Nat → Rat)) (f : Nat) : Nat → Rat := fun j => if j = f ∧ ∀ r ∈ R, lead n r ≠ f then 1 else 0
theorem off_lead {n : Nat} {R : List (Nat → Rat)} {f : Nat} : ∀ r ∈ R, off_ n R f (lead n r) = 0 := by
 intro r hr
 show (if _ then _ else _) = _
 split
 · next h => exact absurd h.1 (h.2 r hr)
 · rfl
theorem dot_off {n : Nat} {R : List (Nat → Rat)} {a : Nat → Rat} {f : Nat} (hf : f < n) (hR : ∀ r ∈ R, lead n r ≠ f) : dot n a (off_ n R f) = a f + a n := by
 unfold dot
 rw [sm_single (k := f) (fun i _ hne => ?_) hf]
 ·
  show a f * (if f = f ∧ _ then _ else _) + _ = _
  rw [if_pos ⟨rfl, hR⟩, Rat.mul_one]
 ·
  show a i * (if i = f ∧ _ then _ else _) = 0
  rw [if_neg (fun h => hne h.1), Rat.mul_zero]
theorem dot_nought {n : Nat} {a : Nat → Rat} : dot n a (fun _ => 0) = a n := by
 unfold dot
 rw [sm_zero' fun i _ => Rat.mul_zero _, Rat.zero_add]
theorem Inv.implies {n : Nat} {S R : List (Nat → Rat)} {ok : Bool} (h : Inv n S R ok) (hok : ok = true) (c : Nat → Rat) : (lead n (red n R c) = n ∧ red n R c n = 0) ↔ ∀ x, Sat n S x → dot n c x = 0 := by
 constructor
 ·
  rintro ⟨h1, h2⟩ x hx
  rw [← red_dot c (h.sat x hx), dot_zero (lead_all.1 h1), h2]
 ·
  intro hc
  have h0 := red_lead c h.good.one h.good.two
  have hv : ∀ y, (∀ r ∈ R, y (lead n r) = 0) → dot n (red n R c) y = 0 := fun y hy => by
   have hs := pnt_sat h.good hy
   have := hc _ (h.back hok _ hs)
   rw [← red_dot c hs, pnt_dot h0] at this
   exact this
  have hn := hv (fun _ => 0) fun _ _ => rfl
  rw [dot_nought] at hn
  refine ⟨lead_all.2 fun j hj => ?_, hn⟩
  by_cases hl : ∃ r ∈ R, lead n r = j
  · obtain ⟨r, hr, rfl⟩ := hl; exact h0 r hr
  ·
   have := hv (off_ n R j) off_lead
   rw [dot_off hj (fun r hr e => hl ⟨r, hr, e⟩), hn, Rat.add_zero] at this
   exact this
theorem Inv.told {n v : Nat} {S R : List (Nat → Rat)} {ok : Bool} (h : Inv n S R ok) {r : Nat → Rat} (hr : r ∈ R) (hv : lead n r = v) (hz : ∀ k, v < k → k < n → r k = 0) (x : Nat → Rat) (hx : Sat n S x) : x v = -(r n) := by
 have h1 := h.sat x hx r hr
 have hl := h.good.lt r hr
 unfold dot at h1
 rw [sm_single (k := v) (fun i hi hne => ?_) (by omega)] at h1
 ·
  have h2 := h.good.one r hr
  rw [hv] at h2
  rw [h2, Rat.one_mul] at h1
  have h3 : x v + r n + -(r n) = -(r n) := by rw [h1, Rat.zero_add]
  rw [Rat.add_assoc, Rat.add_neg_cancel, Rat.add_zero] at h3
  exact h3
 ·
  rcases Nat.lt_or_gt_of_ne hne with h3 | h3
  · rw [lead_zero (n := n) (a := r) (by omega), Rat.zero_mul]
  · rw [hz i h3 hi, Rat.zero_mul]
theorem Inv.untold {n v : Nat} {S R : List (Nat → Rat)} {ok : Bool} (h : Inv n S R ok) (hok : ok = true) (hv : v < n) (hno : ¬ ∃ r ∈ R, lead n r = v ∧ ∀ k, v < k → k < n → r k = 0) : ¬ ∃ q, ∀ x, Sat n S x → x v = q := by
 rintro ⟨q, hq⟩
 have hp : ∀ y, (∀ r ∈ R, y (lead n r) = 0) → pnt n y R v = q := fun y hy => hq _ (h.back hok _ (pnt_sat h.good hy))
 by_cases hl : ∃ r ∈ R, lead n r = v
 ·
  obtain ⟨r, hr, hrv⟩ := hl
  have hk : ∃ k, v < k ∧ k < n ∧ r k ≠ 0 := Classical.byContradiction fun hc => hno ⟨r, hr, hrv, fun k h1 h2 => Classical.byContradiction fun h3 => hc ⟨k, h1, h2, h3⟩⟩
  obtain ⟨k, h1, h2, h3⟩ := hk
  have hkl : ∀ s ∈ R, lead n s ≠ k := fun s hs e => h3 (by rw [← e]; exact h.good.zero r hr s hs (by omega))
  have e0 := hp (fun _ => 0) fun _ _ => rfl
  have e1 := hp (off_ n R k) off_lead
  subst hrv
  rw [pnt_lead h.good r hr, dot_nought] at e0
  rw [pnt_lead h.good r hr, dot_off h2 hkl, ← e0] at e1
  have e2 : r k + r n = r n := by
   have := congrArg (fun z => -z) e1
   simpa using this
  refine h3 ?_
  have e3 : r k + r n + -(r n) = r n + -(r n) := by rw [e2]
  rw [Rat.add_assoc, Rat.add_neg_cancel, Rat.add_zero] at e3
  exact e3
 ·
  have hf : ∀ s ∈ R, v ≠ lead n s := fun s hs e => hl ⟨s, hs, e.symm⟩
  have e0 := hp (fun _ => 0) fun _ _ => rfl
  have e1 := hp (off_ n R v) off_lead
  rw [pnt_free hf] at e0 e1
  have e2 : off_ n R v v = 1 := if_pos ⟨rfl, fun s hs e => hf s hs e.symm⟩
  rw [e2, ← e0] at e1
  exact absurd e1 (by decide)
theorem Inv.basis {n : Nat} {S R : List (Nat → Rat)} {ok : Bool} (h : Inv n S R ok) : Basis n S R := ⟨h.good.ind, h.down, h.up⟩
end Go.Proofs.YtgffkaconhonlaaGreat

namespace Go.Proofs.YtgffkaconhonlaaGreat
set_option maxRecDepth 20000
structure Ech (n : Nat) (R : List (Nat → Rat)) : Prop where
 lt : ∀ r ∈ R, lead n r < n
 two : R.Pairwise fun r s => lead n r ≠ lead n s
theorem Ech.one {n : Nat} {R : List (Nat → Rat)} (h : Ech n R) : ∀ r ∈ R, ∀ s ∈ R, lead n r = lead n s → r = s := by
 intro r hr s hs e
 obtain ⟨i, hi, rfl⟩ := List.getElem_of_mem hr
 obtain ⟨j, hj, rfl⟩ := List.getElem_of_mem hs
 have hp := List.pairwise_iff_getElem.1 h.two
 rcases Nat.lt_trichotomy i j with h1 | h1 | h1
 · exact absurd e (hp i j hi hj h1)
 · subst h1; rfl
 · exact absurd e.symm (hp j i hj hi h1)
theorem Ech.ind {n : Nat} {R : List (Nat → Rat)} (h : Ech n R) : Ind n (fun i => (R[i]?).getD fun _ => 0) R.length := by
 intro u hu
 have key : ∀ m : Nat, ∀ i, ∀ hi : i < R.length, lead n R[i] < m → u i = 0 := by
  intro m
  induction m with
  | zero => intro i hi h0; exact absurd h0 (Nat.not_lt_zero _)
  |
   succ m ih =>
   intro i hi hm
   by_cases hlt : lead n R[i] < m
   · exact ih i hi hlt
   have hm' : lead n R[i] = m := by omega
   have h0 : sm (fun k => u k * ((R[k]?).getD fun _ => 0) (lead n R[i])) R.length = 0 := hu (lead n R[i]) (h.lt _ (List.getElem_mem hi))
   rw [sm_single (k := i) (fun k hk hne => ?_) hi] at h0
   ·
    rw [List.getElem?_eq_getElem hi] at h0
    have h2 : u i * R[i] (lead n R[i]) = 0 := h0
    rcases Rat.mul_eq_zero.1 h2 with h3 | h3
    · exact h3
    · exact absurd h3 (lead_ne (h.lt _ (List.getElem_mem hi)))
   ·
    rw [List.getElem?_eq_getElem hk]
    show u k * R[k] (lead n R[i]) = 0
    rcases Nat.lt_trichotomy (lead n R[k]) (lead n R[i]) with h1 | h1 | h1
    · rw [ih k hk (by omega), Rat.zero_mul]
    ·
     exfalso
     have hp := List.pairwise_iff_getElem.1 h.two
     rcases Nat.lt_or_gt_of_ne hne with h4 | h4
     · exact hp k i hk hi h4 h1
     · exact hp i k hi hk h4 h1.symm
    · rw [lead_zero h1, Rat.mul_zero]
 intro i hi
 exact key (lead n R[i] + 1) i hi (Nat.lt_succ_self _)
theorem Ech.len {n : Nat} {R : List (Nat → Rat)} (h : Ech n R) : R.length ≤ n := by
 refine ind_le (B' := fun i j => if i = j then 1 else 0) h.ind fun i hi => ?_
 refine ⟨fun k => ((R[i]?).getD fun _ => 0) k, fun j hj => ?_⟩
 show _ = sm (fun k => ((R[i]?).getD fun _ => 0) k * (if k = j then 1 else 0)) n
 rw [sm_single (k := j) (fun k _ hne => by rw [if_neg hne, Rat.mul_zero]) hj, if_pos rfl, Rat.mul_one]
theorem Ech.ext {n : Nat} {R : List (Nat → Rat)} (h : Ech n R) : ∀ (m : Nat) (x : Nat → Rat), m ≤ n → (∀ r ∈ R, m ≤ lead n r → dot n r x = 0) →
  ∃ y, Sat n R y ∧ (∀ j, m ≤ j → y j = x j) ∧ ∀ j, j < m → (∀ r ∈ R, lead n r ≠ j) → y j = x j
 | 0, x, _, hx => ⟨x, fun r hr => hx r hr (Nat.zero_le _), fun _ _ => rfl, fun _ _ _ => rfl⟩
 |
  m + 1, x, hm, hx => by
  by_cases hl : ∃ r ∈ R, lead n r = m
  ·
   obtain ⟨r, hr, hrm⟩ := hl
   have hrn : r m ≠ 0 := by have := lead_ne (h.lt r hr); rw [hrm] at this; exact this
   obtain ⟨z, hz⟩ : ∃ z : Nat → Rat, z = fun j => if j = m then x m - dot n r x / r m else x j := ⟨_, rfl⟩
   have z1 : z m = x m - dot n r x / r m := by rw [hz]; exact if_pos rfl
   have z2 : ∀ j, j ≠ m → z j = x j := fun j hj => by rw [hz]; exact if_neg hj
   clear hz
   have hd : ∀ s : Nat → Rat, dot n s z = dot n s x + s m * (z m - x m) := fun s => by
    rw [dot_diff n s z x, sm_single (k := m) (fun i _ hne => by rw [z2 i hne, Rat.sub_self, Rat.mul_zero]) (by omega)]
   obtain ⟨y, h1, h2, h3⟩ := h.ext m z (by omega) (fun s hs hms => by
    by_cases e : lead n s = m
    ·
     have := h.one s hs r hr (by rw [e, hrm])
     subst this
     have e2 : x m - dot n s x / s m - x m = -(dot n s x / s m) := by
      rw [Rat.sub_eq_add_neg, Rat.sub_eq_add_neg, Rat.add_comm (x m), Rat.add_assoc, Rat.add_neg_cancel, Rat.add_zero]
     rw [hd, z1, e2, Rat.mul_neg, Rat.mul_comm (s m), div_mul' hrn, Rat.add_neg_cancel]
    ·
     rw [hd, lead_zero (n := n) (a := s) (show m < lead n s by omega), Rat.zero_mul, Rat.add_zero]
     exact hx s hs (by omega))
   refine ⟨y, h1, fun j hj => ?_, fun j hj hn => ?_⟩
   · rw [h2 j (by omega), z2 j (by omega)]
   ·
    by_cases e : j = m
    · exact absurd (e ▸ hrm) (hn r hr)
    · rw [h3 j (by omega) hn, z2 j e]
  ·
   obtain ⟨y, h1, h2, h3⟩ := h.ext m x (by omega) (fun s hs hms => hx s hs (by
    rcases Nat.lt_or_ge m (lead n s) with h4 | h4
    · exact h4
    · exact absurd ⟨s, hs, by omega⟩ hl))
   refine ⟨y, h1, fun j hj => h2 j (by omega), fun j hj hn => ?_⟩
   by_cases e : j = m
   · exact h2 j (by omega)
   · exact h3 j (by omega) hn
theorem dot_congr {n : Nat} {f g x y : Nat → Rat} (h : ∀ j, j ≤ n → f j = g j) (hx : ∀ j, j < n → x j = y j) : dot n f x = dot n g y := by
 unfold dot
 rw [sm_congr (fun i hi => by rw [h i (by omega), hx i hi]), h n (Nat.le_refl _)]
theorem dot_step {n : Nat} {u v s x : Nat → Rat} {p c : Rat} (h : ∀ j, j ≤ n → u j = v j * p + c * s j) : dot n u x = dot n v x * p + c * dot n s x := by
 have e : dot n u x = dot n (lss (tms v p) s (-c)) x := dot_congr (fun j hj => by
  rw [h j hj, lss_eq, Rat.neg_neg]; rfl) fun _ _ => rfl
 rw [e, dot_lss, dot_tms, Rat.sub_eq_add_neg, Rat.neg_mul, Rat.neg_neg]
theorem sp_dot {n : Nat} {R : List (Nat → Rat)} {u x : Nat → Rat} (h : Sp (n + 1) R u) (hx : Sat n R x) : dot n u x = 0 := by
 induction h with
 | zero h => rw [dot_zero fun j hj => h j (by omega), h _ (by omega)]
 |
  @step v u s c _ hs h ih =>
  rw [dot_step (v := v) (p := 1) (c := c) (s := s) fun j hj => by rw [h j (by omega), Rat.mul_one], ih, hx s hs, Rat.zero_mul, Rat.mul_zero, Rat.add_zero]
theorem Sp.less {n : Nat} {R : List (Nat → Rat)} {u : Nat → Rat} (h : Sp (n + 1) R u) : Sp n R u := by
 induction h with
 | zero h => exact .zero fun j hj => h j (by omega)
 | step c _ hs h ih => exact .step c ih hs fun j hj => h j (by omega)
def Red (n : Nat) (R : List (Nat → Rat)) (c c' : Nat → Rat) : Prop := ∃ q, q ≠ 0 ∧ ∃ u, Sp (n + 1) R u ∧ ∀ j, j ≤ n → c' j = c j * q + u j
theorem one_ne : (1 : Rat) ≠ 0 := by decide
theorem Red.refl (n : Nat) (R : List (Nat → Rat)) (c : Nat → Rat) : Red n R c c :=
 ⟨1, one_ne, fun _ => 0, .zero fun _ _ => rfl, fun j _ => by rw [Rat.mul_one, Rat.add_zero]⟩
theorem Red.step {n : Nat} {R : List (Nat → Rat)} {c c' c2 r : Nat → Rat} {p s : Rat} (h : Red n R c c') (hr : r ∈ R) (hp : p ≠ 0) (h2 : ∀ j, j ≤ n → c2 j = c' j * p + r j * s) : Red n R c c2 := by
 obtain ⟨q, hq, u, hu, he⟩ := h
 refine ⟨q * p, fun e => ?_, fun j => u j * p + r j * s, (hu.mul p).add ((Sp.mem hr).mul s), fun j hj => ?_⟩
 ·
  rcases Rat.mul_eq_zero.1 e with h | h
  · exact hq h
  · exact hp h
 · rw [h2 j hj, he j hj, Rat.add_mul, Rat.mul_assoc, Rat.add_assoc]
theorem Red.dot {n : Nat} {R : List (Nat → Rat)} {c c' : Nat → Rat} (h : Red n R c c') : ∃ q, q ≠ 0 ∧ ∀ x, Sat n R x → Go.Proofs.YtgffkaconhonlaaGreat.dot n c' x = Go.Proofs.YtgffkaconhonlaaGreat.dot n c x * q := by
 obtain ⟨q, hq, u, hu, he⟩ := h
 refine ⟨q, hq, fun x hx => ?_⟩
 rw [dot_step (v := c) (p := q) (c := 1) (s := u) fun j hj => by rw [he j hj, Rat.one_mul], sp_dot hu hx, Rat.mul_zero, Rat.add_zero]
theorem Red.down {n : Nat} {R T : List (Nat → Rat)} {c c' : Nat → Rat} (h : Red n R c c') (hR : ∀ r ∈ R, Sp n T r) (hc : Sp n T c) : Sp n T c' := by
 obtain ⟨q, hq, u, hu, he⟩ := h
 exact ((hc.mul q).add (hu.less.trans hR)).congr fun j hj => he j (by omega)
theorem Red.up {n : Nat} {R T : List (Nat → Rat)} {c c' : Nat → Rat} (h : Red n R c c') (hR : ∀ r ∈ R, Sp n T r) (hc : Sp n T c') : Sp n T c := by
 obtain ⟨q, hq, u, hu, he⟩ := h
 refine ((hc.add ((hu.less.trans hR).mul (-1))).mul (1 / q)).congr fun j hj => ?_
 have e : c' j + u j * -1 = c j * q := by
  rw [he j (by omega), Rat.mul_neg, Rat.mul_one, Rat.add_assoc, Rat.add_neg_cancel, Rat.add_zero]
 rw [e, Rat.mul_assoc, Rat.mul_comm q, div_mul' hq, Rat.mul_one]
structure Stair (n : Nat) (S R : List (Nat → Rat)) (ok : Bool) : Prop where
 ech : Ech n R
 down : ∀ r ∈ R, Sp n S r
 up : ∀ s ∈ S, Sp n R s
 sat : ∀ x, Sat n S x → Sat n R x
 back : ok = true → ∀ x, Sat n R x → Sat n S x
 bad : ok = false → ∀ x, ¬ Sat n S x
theorem Stair.nil (n : Nat) : Stair n [] [] true :=
 ⟨⟨fun r h => (by cases h), List.Pairwise.nil⟩, fun r h => (by cases h), fun r h => (by cases h), fun _ h => h, fun _ _ h => h, fun h => (by cases h)⟩
theorem Stair.none {n : Nat} {S R : List (Nat → Rat)} {ok : Bool} (h : Stair n S R ok) {e e' : Nat → Rat} (hr : Red n R e e') (hl : lead n e' = n) : Stair n (S ++ [e]) R (ok && decide (e' n = 0)) := by
 have hz := lead_all.1 hl
 obtain ⟨q, hq, hd⟩ := hr.dot
 refine ⟨h.ech, fun r hr => (h.down r hr).more fun s hs => List.mem_append_left _ hs, fun s hs => ?_, fun x hx => h.sat x (sat_snoc.1 hx).1, fun hok x hx => ?_, fun hok x hx => ?_⟩
 ·
  rcases List.mem_append.1 hs with hs | hs
  · exact h.up s hs
  · rw [List.mem_singleton.1 hs]; exact hr.up (fun r hr => .mem hr) (.zero hz)
 ·
  simp only [Bool.and_eq_true, decide_eq_true_eq] at hok
  refine sat_snoc.2 ⟨h.back hok.1 x hx, ?_⟩
  have := hd x hx
  rw [dot_zero hz, hok.2] at this
  rcases Rat.mul_eq_zero.1 this.symm with h1 | h1
  · exact h1
  · exact absurd h1 hq
 ·
  obtain ⟨h1, h2⟩ := sat_snoc.1 hx
  cases ok with
  | false => exact h.bad rfl x h1
  |
   true =>
   have := hd x (h.sat x h1)
   rw [h2, Rat.zero_mul, dot_zero hz] at this
   simp [this] at hok
theorem Stair.some {n : Nat} {S R : List (Nat → Rat)} {ok : Bool} (h : Stair n S R ok) {e e' r' : Nat → Rat} {t : Rat} (hr : Red n R e e') (hl : lead n e' < n) (hR : ∀ r ∈ R, lead n r ≠ lead n e') (ht : t ≠ 0) (hr' : ∀ j, j ≤ n → r' j = e' j * t) : Stair n (S ++ [e]) (R ++ [r']) ok := by
 obtain ⟨q, hq, hd⟩ := hr.dot
 have hle : lead n r' = lead n e' := lead_of hl (fun j hj => by rw [hr' j (by omega), lead_zero hj, Rat.zero_mul]) (fun e => by
  rw [hr' _ (by omega)] at e
  rcases Rat.mul_eq_zero.1 e with h1 | h1
  · exact lead_ne hl h1
  · exact ht h1)
 have hdr : ∀ x, dot n r' x = dot n e' x * t := fun x => by
  rw [dot_step (v := e') (p := t) (c := 0) (s := e') fun j hj => by rw [hr' j hj, Rat.zero_mul, Rat.add_zero], Rat.zero_mul, Rat.add_zero]
 have hup : ∀ s ∈ R, Sp n (R ++ [r']) s := fun s hs => .mem (List.mem_append_left _ hs)
 have hdn : ∀ r ∈ R, Sp n (S ++ [e]) r := fun r hr => (h.down r hr).more fun s hs => List.mem_append_left _ hs
 have he' : Sp n (R ++ [r']) e' := ((Sp.mem (S := R ++ [r']) (s := r') (by simp)).mul (1 / t)).congr fun j hj => by
  rw [hr' j (by omega), Rat.mul_assoc, Rat.mul_comm t, div_mul' ht, Rat.mul_one]
 refine ⟨⟨fun s hs => ?_, ?_⟩, fun s hs => ?_, fun s hs => ?_, fun x hx => ?_, fun hok x hx => ?_, fun hok x hx => h.bad hok x (sat_snoc.1 hx).1⟩
 ·
  rcases List.mem_append.1 hs with hs | hs
  · exact h.ech.lt s hs
  · rw [List.mem_singleton.1 hs, hle]; exact hl
 ·
  rw [List.pairwise_append]
  refine ⟨h.ech.two, List.pairwise_singleton _ _, fun s hs u hu => ?_⟩
  rw [List.mem_singleton.1 hu, hle]; exact hR s hs
 ·
  rcases List.mem_append.1 hs with hs | hs
  · exact hdn s hs
  ·
   rw [List.mem_singleton.1 hs]
   exact ((hr.down hdn (.mem (by simp))).mul t).congr fun j hj => hr' j (by omega)
 ·
  rcases List.mem_append.1 hs with hs | hs
  · exact (h.up s hs).trans hup
  · rw [List.mem_singleton.1 hs]; exact hr.up hup he'
 ·
  obtain ⟨h1, h2⟩ := sat_snoc.1 hx
  have h3 := h.sat x h1
  refine sat_snoc.2 ⟨h3, ?_⟩
  rw [hdr, hd x h3, h2, Rat.zero_mul, Rat.zero_mul]
 ·
  obtain ⟨h1, h2⟩ := sat_snoc.1 hx
  refine sat_snoc.2 ⟨h.back hok x h1, ?_⟩
  rw [hdr, hd x h1] at h2
  rcases Rat.mul_eq_zero.1 h2 with h3 | h3
  ·
   rcases Rat.mul_eq_zero.1 h3 with h4 | h4
   · exact h4
   · exact absurd h4 hq
  · exact absurd h3 ht
theorem Stair.basis {n : Nat} {S R : List (Nat → Rat)} {ok : Bool} (h : Stair n S R ok) : Basis n S R := ⟨h.ech.ind, h.down, h.up⟩
theorem Ech.sat {n : Nat} {R : List (Nat → Rat)} (h : Ech n R) : ∃ x, Sat n R x := by
 obtain ⟨y, hy, _⟩ := h.ext n (fun _ => 0) (Nat.le_refl _) (fun r hr hl => absurd (h.lt r hr) (by omega))
 exact ⟨y, hy⟩
theorem Stair.cons {n : Nat} {S R : List (Nat → Rat)} {ok : Bool} (h : Stair n S R ok) : ok = true ↔ ∃ x, Sat n S x := by
 constructor
 ·
  intro hok
  obtain ⟨x, hx⟩ := h.ech.sat
  exact ⟨x, h.back hok x hx⟩
 ·
  rintro ⟨x, hx⟩
  cases ok with
  | true => rfl
  | false => exact absurd hx (h.bad rfl x)
theorem Ech.pair {n k : Nat} {R : List (Nat → Rat)} (h : Ech n R) (hk : k < n) (hR : ∀ r ∈ R, lead n r ≠ k) : ∃ x y, Sat n R x ∧ Sat n R y ∧ y k = x k + 1 ∧ ∀ j, k < j → y j = x j := by
 obtain ⟨x, hx⟩ := h.sat
 obtain ⟨z, hz⟩ : ∃ z : Nat → Rat, z = fun j => if j = k then x k + 1 else x j := ⟨_, rfl⟩
 have z1 : z k = x k + 1 := by rw [hz]; exact if_pos rfl
 have z2 : ∀ j, j ≠ k → z j = x j := fun j hj => by rw [hz]; exact if_neg hj
 clear hz
 obtain ⟨y, h1, h2, _⟩ := h.ext k z (by omega) (fun s hs hms => by
  rw [dot_diff n s z x, sm_single (k := k) (fun i _ hne => by rw [z2 i hne, Rat.sub_self, Rat.mul_zero]) hk, lead_zero (n := n) (a := s) (show k < lead n s by have := hR s hs; omega), Rat.zero_mul, Rat.add_zero]
  exact hx s hs)
 exact ⟨x, y, hx, h1, by rw [h2 k (Nat.le_refl _), z1], fun j hj => by rw [h2 j (by omega), z2 j (by omega)]⟩
theorem dot_gap {n k : Nat} {c x y : Nat → Rat} (hk : k < n) (h0 : ∀ j, j < k → c j = 0) (h1 : y k = x k + 1) (h2 : ∀ j, k < j → j < n → c j * (y j - x j) = 0) : dot n c y = dot n c x + c k := by
 rw [dot_diff n c y x, sm_single (k := k) (fun i hi hne => ?_) hk, h1]
 ·
  congr 1
  rw [show x k + 1 - x k = 1 by rw [Rat.sub_eq_add_neg, Rat.add_comm (x k), Rat.add_assoc, Rat.add_neg_cancel, Rat.add_zero], Rat.mul_one]
 ·
  rcases Nat.lt_or_gt_of_ne hne with h3 | h3
  · rw [h0 i h3, Rat.zero_mul]
  · exact h2 i h3 hi
theorem Stair.imp {n : Nat} {S R : List (Nat → Rat)} {ok : Bool} (h : Stair n S R ok) (hok : ok = true) {c c' : Nat → Rat} (hr : Red n R c c') (hR : ∀ r ∈ R, lead n r ≠ lead n c') : (lead n c' = n ∧ c' n = 0) ↔ ∀ x, Sat n S x → dot n c x = 0 := by
 obtain ⟨q, hq, hd⟩ := hr.dot
 constructor
 ·
  rintro ⟨h1, h2⟩ x hx
  have := hd x (h.sat x hx)
  rw [dot_zero (lead_all.1 h1), h2] at this
  rcases Rat.mul_eq_zero.1 this.symm with h3 | h3
  · exact h3
  · exact absurd h3 hq
 ·
  intro hc
  have hv : ∀ x, Sat n R x → dot n c' x = 0 := fun x hx => by rw [hd x hx, hc x (h.back hok x hx), Rat.zero_mul]
  rcases Nat.lt_or_ge (lead n c') n with h1 | h1
  ·
   exfalso
   obtain ⟨x, y, hx, hy, e1, e2⟩ := h.ech.pair h1 hR
   have e3 := dot_gap (c := c') h1 (fun j hj => lead_zero hj) e1 (fun j hj _ => by rw [e2 j hj, Rat.sub_self, Rat.mul_zero])
   rw [hv x hx, hv y hy, Rat.zero_add] at e3
   exact lead_ne h1 e3.symm
  ·
   have hl : lead n c' = n := Nat.le_antisymm (lead_le n c') h1
   obtain ⟨x, hx⟩ := h.ech.sat
   have := hv x hx
   rw [dot_zero (lead_all.1 hl)] at this
   exact ⟨hl, this⟩
def lift (n : Nat) (r : Nat → Rat) : Nat → Rat := fun j => if j < n then r j else if j = n then 0 else r n
theorem lift_lt {n j : Nat} {r : Nat → Rat} (h : j < n) : lift n r j = r j := if_pos h
theorem lift_n (n : Nat) (r : Nat → Rat) : lift n r n = 0 := by unfold lift; rw [if_neg (Nat.lt_irrefl _), if_pos rfl]
theorem lift_k (n : Nat) (r : Nat → Rat) : lift n r (n + 1) = r n := by unfold lift; rw [if_neg (by omega), if_neg (by omega)]
theorem dot_lift (n : Nat) (r x : Nat → Rat) : dot (n + 1) (lift n r) x = dot n r x := by
 unfold dot
 rw [sm, lift_n, lift_k, Rat.zero_mul, Rat.add_zero, sm_congr fun i hi => by rw [lift_lt hi]]
theorem sp_lift {n : Nat} {R : List (Nat → Rat)} {u : Nat → Rat} (h : Sp (n + 1 + 1) (R.map (lift n)) u) : u n = 0 := by
 induction h with
 | zero h => exact h n (by omega)
 |
  @step v u s c _ hs h ih =>
  obtain ⟨r, _, rfl⟩ := List.mem_map.1 hs
  rw [h n (by omega), ih, lift_n, Rat.mul_zero, Rat.add_zero]
theorem Stair.fixed {n v : Nat} {S R : List (Nat → Rat)} {ok : Bool} (h : Stair n S R ok) (hok : ok = true) (hv : v < n) {c c' : Nat → Rat} (hcv : ∀ x, dot (n + 1) c x = x v - x n) (hcn : c n ≠ 0) (hr : Red (n + 1) (R.map (lift n)) c c') (hR : ∀ r ∈ R, lead n r ≠ lead (n + 1) c') :
  lead (n + 1) c' ≤ n ∧ (lead (n + 1) c' = n → ∀ x, Sat n S x → x v = -(c' (n + 1)) / c' n) ∧ (lead (n + 1) c' < n → ¬ ∃ t, ∀ x, Sat n S x → x v = t) := by
 have hcn' : c' n ≠ 0 := by
  obtain ⟨q, hq, u, hu, he⟩ := hr
  rw [he n (by omega), sp_lift hu, Rat.add_zero]
  intro e
  rcases Rat.mul_eq_zero.1 e with h1 | h1
  · exact hcn h1
  · exact hq h1
 obtain ⟨q, hq, hd⟩ := hr.dot
 have hS : ∀ x y : Nat → Rat, Sat n R x → (∀ j, j < n → y j = x j) → Sat (n + 1) (R.map (lift n)) y := fun x y hx hy s hs => by
  obtain ⟨r, hr, rfl⟩ := List.mem_map.1 hs
  rw [dot_lift, ← hx r hr]
  exact dot_congr (fun _ _ => rfl) hy
 have hle : lead (n + 1) c' ≤ n := by
  rcases Nat.lt_or_ge n (lead (n + 1) c') with h1 | h1
  · exact absurd (lead_zero h1) hcn'
  · exact h1
 have hat : ∀ (x : Nat → Rat) (t : Rat), Sat n R x → x v = t → dot (n + 1) c' (fun j => if j = n then t else x j) = 0 := fun x t hx hxv => by
  rw [hd _ (hS x _ hx fun j hj => if_neg (by omega)), hcv]
  show ((if v = n then t else x v) - (if n = n then t else x n)) * q = 0
  rw [if_neg (by omega), if_pos rfl, hxv, Rat.sub_self, Rat.zero_mul]
 refine ⟨hle, fun hl x hx => ?_, fun hl => ?_⟩
 ·
  have h1 := hat x (x v) (h.sat x hx) rfl
  have h2 : dot (n + 1) c' (fun j => if j = n then x v else x j) = c' n * x v + c' (n + 1) := by
   unfold dot
   rw [sm, sm_zero' fun i hi => by rw [lead_zero (n := n + 1) (a := c') (by omega), Rat.zero_mul], Rat.zero_add]
   show c' n * (if n = n then x v else x n) + _ = _
   rw [if_pos rfl]
  rw [h2] at h1
  have h3 : x v * c' n = -(c' (n + 1)) := by
   rw [Rat.mul_comm]
   have := congrArg (fun z => z + -(c' (n + 1))) h1
   simpa [Rat.add_assoc, Rat.add_neg_cancel, Rat.add_zero, Rat.zero_add] using this
  rw [← h3, Rat.div_def, Rat.mul_assoc, Rat.mul_inv_cancel _ hcn', Rat.mul_one]
 ·
  rintro ⟨t, ht⟩
  obtain ⟨x, y, hx, hy, e1, e2⟩ := h.ech.pair hl hR
  have a1 := hat x t hx (ht x (h.back hok x hx))
  have a2 := hat y t hy (ht y (h.back hok y hy))
  have e3 := dot_gap (n := n + 1) (k := lead (n + 1) c') (c := c') (x := fun j => if j = n then t else x j) (y := fun j => if j = n then t else y j) (by omega) (fun j hj => lead_zero hj)
   (by
    have hne : ¬ lead (n + 1) c' = n := by omega
    simp only [hne, if_false]
    exact e1)
   (fun j hj _ => by
    show c' j * ((if j = n then t else y j) - (if j = n then t else x j)) = 0
    split
    · rw [Rat.sub_self, Rat.mul_zero]
    · rw [e2 j hj, Rat.sub_self, Rat.mul_zero])
  rw [a1, a2, Rat.zero_add] at e3
  exact lead_ne (n := n + 1) (by omega) e3.symm
end Go.Proofs.YtgffkaconhonlaaGreat
