/-
  Expressions, no program: trees, and what a text is as one: from the left, with an error and where it is met.
  Expressions: what a struct of six cells holds, what a reader holds; the leaves of the reader.
  The reader's leaves: letters, signs, blanks, nodes; an error goes up by panic.
  The reader goes on: past blanks, past bytes of one kind, into a bracket; a node is counted.
  The reader goes past bytes of one kind; into a bracket; a node is counted.
  Trees in memory; what a part of the reader answers.
-/
import Derived.WalkKit
import Derived.Test.YtcmkgoikmleanaaGreatDoorMRa
namespace Go.Proofs.YtcmkgoikmleanaaGreatDoor
set_option maxRecDepth 20000
inductive Ex where
  | bad
  | num (r : Rat)
  | nm (s : ByteArray)
  | bin (k : Nat) (a b : Ex)
  | neg (a : Ex)
def bt (S : ByteArray) (p : Nat) : UInt8 := (S.data.toList[p]?).getD 0
def run (f : UInt8 → Bool) (S : ByteArray) (p : Nat) : Nat := p + ((S.data.toList.drop p).takeWhile f).length
def skp (S : ByteArray) (p : Nat) : Nat := run (· == 32) S p
def isDg (c : UInt8) : Bool := decide (48 ≤ c.toNat) && decide (c.toNat ≤ 57)
def isLw (c : UInt8) : Bool := decide (97 ≤ c.toNat) && decide (c.toNat ≤ 122)
def isNb (c : UInt8) : Bool := isLw c || isDg c || c == 95
def kSum (c : UInt8) : Nat := if c = 43 then 3 else if c = 45 then 4 else 0
def kPro (c : UInt8) : Nat := if c = 42 then 5 else if c = 47 then 6 else 0
inductive PR where
  | err (at_ : Nat) (c : Nat)
  | ok (t u : Ex) (p n : Nat) (lg : Bool)
def mk (n : Nat) (t : Ex) : Ex := if n < 256 then t else .bad
def PR.then (r : PR) (f : Ex → Ex → Nat → Nat → Bool → PR) : PR :=
  match r with
  | .err a c => .err a c
  | .ok t u p n lg => f t u p n lg
variable (tv : ByteArray → Rat)
def rowL (S : ByteArray) (part : Nat → Nat → PR) (kf : UInt8 → Nat) : Nat → Ex → Ex → Nat → Nat → Bool → PR
  | 0, t, u, p, n, lg => .ok t u p n lg
  | f + 1, t, u, p, n, lg =>
    if kf (bt S (skp S p)) = 0 then .ok t u (skp S p) n lg
    else (part (skp S p + 1) n).then fun t2 u2 p2 n2 lg2 =>
      rowL S part kf f (mk n2 (.bin (kf (bt S (skp S p))) t t2)) (.bin (kf (bt S (skp S p))) u u2) p2 (n2 + 1) (lg || lg2)
def rowS (S : ByteArray) (part : Nat → Nat → PR) (kf : UInt8 → Nat) (p n : Nat) : PR :=
  (part p n).then fun t u p n lg => rowL S part kf (S.size + 1) t u p n lg
def numE (S : ByteArray) (q z n : Nat) : PR :=
  if z - q ≤ 400 then .ok (mk n (.num (tv (S.extract q z)))) (.num (tv (S.extract q z))) z (n + 1) false
  else .ok .bad (.num 0) z n true
def numb (S : ByteArray) (q n : Nat) : PR :=
  if bt S (run isDg S q) = 46 then
    if run isDg S (run isDg S q + 1) = run isDg S q + 1 then .err (run isDg S q + 1) 2
    else numE tv S q (run isDg S (run isDg S q + 1)) n
  else numE tv S q (run isDg S q) n
def name (S : ByteArray) (q n : Nat) : PR :=
  if run isNb S q - q > 24 then .err (q + 24) 2
  else .ok (mk n (.nm (S.extract q (run isNb S q)))) (.nm (S.extract q (run isNb S q))) (run isNb S q) (n + 1) false
def fac (S : ByteArray) (dp : Option ((Nat → Nat → PR) × (Nat → Nat → PR))) (p n : Nat) : PR :=
  if bt S (skp S p) = 45 then
    match dp with
    | none => .err (skp S p) 4
    | some (f, _) => (f (skp S p + 1) n).then fun t u p2 n2 lg => .ok (mk n2 (.neg t)) (.neg u) p2 (n2 + 1) lg
  else if bt S (skp S p) = 40 then
    match dp with
    | none => .err (skp S p) 4
    | some (_, s) => (s (skp S p + 1) n).then fun t u p2 n2 lg =>
        if bt S (skp S p2) = 41 then .ok t u (skp S p2 + 1) n2 lg else .err (skp S p2) 2
  else if isDg (bt S (skp S p)) then numb tv S (skp S p) n
  else if isLw (bt S (skp S p)) then name S (skp S p) n
  else .err (skp S p) 2
def sumO (S : ByteArray) (f : Nat → Nat → PR) : Nat → Nat → PR := rowS S (rowS S f kPro) kSum
def lev (S : ByteArray) : Nat → (Nat → Nat → PR) × (Nat → Nat → PR)
  | 0 => (fac tv S none, sumO S (fac tv S none))
  | k + 1 => (fac tv S (some (lev S k)), sumO S (fac tv S (some (lev S k))))
/-- The whole text. -/
def parse (S : ByteArray) : PR :=
  ((lev tv S 31).2 0 0).then fun t u p n lg => if p < S.size then .err p 2 else .ok t u p n lg

theorem mem_takeWhile {α : Type} {f : α → Bool} : ∀ {l : List α} {j : Nat} (_ : j < (l.takeWhile f).length), ∃ h2 : j < l.length, f l[j] = true := by
  intro l
  induction l with
  | nil => intro j h; simp at h
  | cons a l ih =>
    intro j h
    rw [List.takeWhile_cons] at h
    by_cases ha : f a = true
    · rw [if_pos ha] at h
      cases j with
      | zero => exact ⟨by simp, ha⟩
      | succ j => obtain ⟨h2, h3⟩ := ih (j := j) (by simpa using h); exact ⟨by simpa using h2, by simpa using h3⟩
    · rw [if_neg ha] at h; simp at h
theorem end_takeWhile {α : Type} {f : α → Bool} : ∀ {l : List α} (h : (l.takeWhile f).length < l.length), f (l[(l.takeWhile f).length]'(show (l.takeWhile f).length < l.length from h)) = false := by
  intro l
  induction l with
  | nil => intro h; simp at h
  | cons a l ih =>
    intro h
    by_cases ha : f a = true
    · have e : (a :: l).takeWhile f = a :: l.takeWhile f := by rw [List.takeWhile_cons, if_pos ha]
      have := ih (by rw [e] at h; simpa using h)
      simp only [e, List.length_cons, List.getElem_cons_succ]
      exact this
    · have e : (a :: l).takeWhile f = [] := by rw [List.takeWhile_cons, if_neg ha]
      simp only [e, List.length_nil, List.getElem_cons_zero]; exact Bool.eq_false_iff.2 ha
theorem len_takeWhile {α : Type} {f : α → Bool} (l : List α) : (l.takeWhile f).length ≤ l.length := by
  induction l with
  | nil => simp
  | cons a l ih => rw [List.takeWhile_cons]; split <;> simp <;> omega
theorem data_size (S : ByteArray) : S.data.toList.length = S.size := by rw [Array.length_toList]; rfl
theorem bt_lt {S : ByteArray} {p : Nat} (h : p < S.size) : bt S p = S[p] := by
  have h' : p < S.data.toList.length := by rw [data_size]; exact h
  unfold bt
  rw [List.getElem?_eq_getElem h', Option.getD_some]
  simp; rfl
theorem bt_ge {S : ByteArray} {p : Nat} (h : S.size ≤ p) : bt S p = 0 := by
  unfold bt
  rw [List.getElem?_eq_none (by rw [data_size]; exact h)]; rfl
theorem le_run (f : UInt8 → Bool) (S : ByteArray) (p : Nat) : p ≤ run f S p := Nat.le_add_right _ _
theorem run_le (f : UInt8 → Bool) (S : ByteArray) {p : Nat} (h : p ≤ S.size) : run f S p ≤ S.size := by
  have := len_takeWhile (f := f) (S.data.toList.drop p)
  rw [List.length_drop, data_size] at this
  unfold run; omega
theorem run_in (f : UInt8 → Bool) (S : ByteArray) (p j : Nat) (h : p ≤ j) (h2 : j < run f S p) : j < S.size ∧ f (bt S j) = true := by
  have h0 : j - p < ((S.data.toList.drop p).takeWhile f).length := by unfold run at h2; omega
  obtain ⟨h3, h4⟩ := mem_takeWhile h0
  rw [List.length_drop, data_size] at h3
  have hj : j < S.size := by omega
  refine ⟨hj, ?_⟩
  rw [List.getElem_drop] at h4
  have e : p + (j - p) = j := by omega
  simp only [e] at h4
  unfold bt
  rw [List.getElem?_eq_getElem (by rw [data_size]; exact hj), Option.getD_some]
  exact h4
theorem run_out (f : UInt8 → Bool) (S : ByteArray) (p : Nat) (hp : p ≤ S.size) (h : run f S p < S.size) : f (bt S (run f S p)) = false := by
  have h0 : ((S.data.toList.drop p).takeWhile f).length < (S.data.toList.drop p).length := by
    rw [List.length_drop, data_size]; unfold run at h; omega
  have h1 := end_takeWhile h0
  rw [List.getElem_drop] at h1
  unfold bt
  rw [List.getElem?_eq_getElem (by rw [data_size]; exact h), Option.getD_some]
  exact h1
def Ex.nodes : Ex → Nat
  | .bad => 1 | .num _ => 1 | .nm _ => 1 | .bin _ a b => 1 + a.nodes + b.nodes | .neg a => 1 + a.nodes
def Ex.hasBad : Ex → Bool
  | .bad => true | .num _ => false | .nm _ => false | .bin _ a b => a.hasBad || b.hasBad | .neg a => a.hasBad
structure Ok (S : ByteArray) (p n : Nat) (t u : Ex) (p' n' : Nat) (lg : Bool) : Prop where
  lt : p < p'
  le : p' ≤ S.size
  nle : n ≤ n'
  step : n' + p ≤ n + p'
  over : 256 < n' → t = .bad
  long : n' ≤ 256 → lg = true → t.hasBad = true
  same : n' ≤ 256 → lg = false → t = u
  count : lg = false → n' = n + u.nodes
  clean : u.hasBad = false
def Good (S : ByteArray) (p n : Nat) : PR → Prop
  | .err a c => a ≤ S.size ∧ (c = 2 ∨ c = 4)
  | .ok t u p' n' lg => Ok S p n t u p' n' lg
theorem mk_of {n : Nat} {t : Ex} (h : n + 1 ≤ 256) : mk n t = t := by unfold mk; rw [if_pos (by omega)]
theorem mk_over {n : Nat} {t : Ex} (h : 256 < n + 1) : mk n t = .bad := by unfold mk; rw [if_neg (by omega)]
theorem bt_some {S : ByteArray} {p : Nat} (h : bt S p ≠ 0) : p < S.size := by
  rcases Nat.lt_or_ge p S.size with h1 | h1
  · exact h1
  · exact absurd (bt_ge h1) h
theorem good_then {S : ByteArray} {p n p' n' : Nat} {r : PR} {f : Ex → Ex → Nat → Nat → Bool → PR} (h : Good S p n r) (hf : ∀ t u p1 n1 lg, Ok S p n t u p1 n1 lg → Good S p' n' (f t u p1 n1 lg)) : Good S p' n' (r.then f) := by
  cases r with
  | err a c => exact h
  | ok t u p n lg => exact hf _ _ _ _ _ h
theorem skp_le (S : ByteArray) (p : Nat) : p ≤ skp S p := le_run _ _ _
theorem skp_ge (S : ByteArray) {p : Nat} (h : p ≤ S.size) : skp S p ≤ S.size := run_le _ _ h
theorem numE_good {S : ByteArray} {q z n : Nat} (h : q < z) (hz : z ≤ S.size) : Good S q n (numE tv S q z n) := by
  unfold numE
  split
  · refine ⟨h, hz, by omega, by omega, fun h => mk_over h, fun _ h => (Bool.noConfusion h), fun h _ => mk_of h, fun _ => rfl, rfl⟩
  · exact ⟨h, hz, by omega, by omega, fun _ => rfl, fun _ _ => rfl, fun _ h => Bool.noConfusion h, fun h => Bool.noConfusion h, rfl⟩
theorem run_pos {f : UInt8 → Bool} {S : ByteArray} {p : Nat} (h : p < S.size) (hf : f (bt S p) = true) : p < run f S p := by
  rcases Nat.lt_or_ge p (run f S p) with h1 | h1
  · exact h1
  · have e : run f S p = p := Nat.le_antisymm h1 (le_run _ _ _)
    have := run_out f S p (by omega) (by omega)
    rw [e, hf] at this; cases this
theorem dg_pos {c : UInt8} (h : isDg c = true) : c ≠ 0 := by intro e; subst e; revert h; decide
theorem lw_pos {c : UInt8} (h : isLw c = true) : c ≠ 0 := by intro e; subst e; revert h; decide
theorem lw_nb {c : UInt8} (h : isLw c = true) : isNb c = true := by unfold isNb; rw [h]; rfl
theorem numb_good {S : ByteArray} {q n : Nat} (hd : isDg (bt S q) = true) : Good S q n (numb tv S q n) := by
  have h := bt_some (dg_pos hd)
  have h1 := run_pos h hd
  have h2 := run_le isDg S (p := q) (by omega)
  unfold numb
  split
  · rename_i h46
    have h3 : run isDg S q < S.size := bt_some (by rw [h46]; decide)
    have h4 := run_le isDg S (p := run isDg S q + 1) (by omega)
    have h5 := le_run isDg S (run isDg S q + 1)
    split
    · exact ⟨by omega, .inl rfl⟩
    · exact numE_good tv (by omega) h4
  · exact numE_good tv h1 h2
theorem name_good {S : ByteArray} {q n : Nat} (hd : isLw (bt S q) = true) : Good S q n (name S q n) := by
  have h := bt_some (lw_pos hd)
  have h1 := run_pos h (lw_nb hd)
  have h2 := run_le isNb S (p := q) (by omega)
  unfold name
  split
  · exact ⟨by omega, .inl rfl⟩
  · exact ⟨h1, h2, by omega, by omega, fun h => mk_over h, fun _ h => (Bool.noConfusion h), fun h _ => mk_of h, fun _ => rfl, rfl⟩
theorem rowL_good {S : ByteArray} {part : Nat → Nat → PR} {kf : UInt8 → Nat} (hk : kf 0 = 0) (hp : ∀ p n, p ≤ S.size → Good S p n (part p n)) (p0 n0 : Nat) :
    ∀ (f : Nat) (t u : Ex) (p n : Nat) (lg : Bool), Ok S p0 n0 t u p n lg → Good S p0 n0 (rowL S part kf f t u p n lg) := by
  intro f
  induction f with
  | zero => intro t u p n lg h; exact h
  | succ f ih =>
    intro t u p n lg h
    have g1 := skp_le S p
    have g2 := skp_ge S h.le
    unfold rowL
    split
    · exact ⟨Nat.lt_of_lt_of_le h.lt g1, g2, h.nle, by have := h.step; omega, h.over, h.long, h.same, h.count, h.clean⟩
    · rename_i hne
      have hlt : skp S p < S.size := bt_some (fun e => hne (by rw [e, hk]))
      refine good_then (hp (skp S p + 1) n (by omega)) fun t2 u2 p2 n2 lg2 h2 => ih _ _ _ _ _ ?_
      have a1 := h.lt
      have a2 := h2.lt
      have a3 := h.nle
      have a4 := h2.nle
      have a5 := h.step
      have a6 := h2.step
      refine ⟨by omega, h2.le, by omega, by omega, fun h => mk_over h, ?_, ?_, ?_, ?_⟩
      · intro b1 b2
        rw [mk_of b1]
        simp only [Ex.hasBad, Bool.or_eq_true] at b2 ⊢
        rcases b2 with b2 | b2
        · exact .inl (h.long (by omega) b2)
        · exact .inr (h2.long (by omega) b2)
      · intro b1 b2
        simp only [Bool.or_eq_false_iff] at b2
        rw [mk_of b1, h.same (by omega) b2.1, h2.same (by omega) b2.2]
      · intro b2
        simp only [Bool.or_eq_false_iff] at b2
        have c1 := h.count b2.1
        have c2 := h2.count b2.2
        simp only [Ex.nodes]; omega
      · simp only [Ex.hasBad, h.clean, h2.clean, Bool.or_false]
theorem rowS_good {S : ByteArray} {part : Nat → Nat → PR} {kf : UInt8 → Nat} (hk : kf 0 = 0) (hp : ∀ p n, p ≤ S.size → Good S p n (part p n)) (p n : Nat) (h : p ≤ S.size) : Good S p n (rowS S part kf p n) :=
  good_then (hp p n h) fun _ _ _ _ _ h2 => rowL_good hk hp p n _ _ _ _ _ _ h2
theorem fac_good {S : ByteArray} {dp : Option ((Nat → Nat → PR) × (Nat → Nat → PR))} (hd : ∀ x, dp = some x → (∀ p n, p ≤ S.size → Good S p n (x.1 p n)) ∧ (∀ p n, p ≤ S.size → Good S p n (x.2 p n))) (p n : Nat) (h : p ≤ S.size) :
    Good S p n (fac tv S dp p n) := by
  have g1 := skp_le S p
  have g2 := skp_ge S h
  have wide : ∀ r, Good S (skp S p) n r → Good S p n r := by
    intro r hr
    cases r with
    | err a c => exact hr
    | ok t u p' n' lg => exact ⟨Nat.lt_of_le_of_lt g1 hr.lt, hr.le, hr.nle, by have := hr.step; omega, hr.over, hr.long, hr.same, hr.count, hr.clean⟩
  unfold fac
  split
  · rename_i h45
    have hlt : skp S p < S.size := bt_some (by rw [h45]; decide)
    split
    · exact ⟨g2, .inr rfl⟩
    · refine good_then ((hd _ rfl).1 _ n (by omega)) fun t u p2 n2 lg h2 => ?_
      have a1 := h2.lt
      have a2 := h2.step
      have a3 := h2.nle
      refine ⟨by omega, h2.le, by omega, by omega, fun h => mk_over h, ?_, ?_, ?_, ?_⟩
      · intro b1 b2
        rw [mk_of b1]; exact h2.long (by omega) b2
      · intro b1 b2
        rw [mk_of b1, h2.same (by omega) b2]
      · intro b2
        have := h2.count b2
        simp only [Ex.nodes]; omega
      · exact h2.clean
  · split
    · rename_i h40
      have hlt : skp S p < S.size := bt_some (by rw [h40]; decide)
      split
      · exact ⟨g2, .inr rfl⟩
      · refine good_then ((hd _ rfl).2 _ n (by omega)) fun t u p2 n2 lg h2 => ?_
        have a1 := h2.lt
        have a2 := h2.step
        have a3 := h2.nle
        have a4 := skp_le S p2
        have a5 := skp_ge S h2.le
        split
        · rename_i h41
          have hlt : skp S p2 < S.size := bt_some (by rw [h41]; decide)
          exact ⟨by omega, by omega, by omega, by omega, h2.over, h2.long, h2.same, h2.count, h2.clean⟩
        · exact ⟨a5, .inl rfl⟩
    · split
      · rename_i h1; exact wide _ (numb_good tv h1)
      · split
        · rename_i h1; exact wide _ (name_good h1)
        · exact ⟨g2, .inl rfl⟩
theorem sumO_good {S : ByteArray} {f : Nat → Nat → PR} (hp : ∀ p n, p ≤ S.size → Good S p n (f p n)) (p n : Nat) (h : p ≤ S.size) : Good S p n (sumO S f p n) :=
  rowS_good (by decide) (fun p n h => rowS_good (by decide) hp p n h) p n h
theorem lev_good (S : ByteArray) : ∀ k, (∀ p n, p ≤ S.size → Good S p n ((lev tv S k).1 p n)) ∧ (∀ p n, p ≤ S.size → Good S p n ((lev tv S k).2 p n)) := by
  intro k
  induction k with
  | zero =>
    have h : ∀ p n, p ≤ S.size → Good S p n (fac tv S none p n) := fun p n h => fac_good tv (by rintro x ⟨⟩) p n h
    exact ⟨h, fun p n hp => sumO_good h p n hp⟩
  | succ k ih =>
    have h : ∀ p n, p ≤ S.size → Good S p n (fac tv S (some (lev tv S k)) p n) := fun p n h => fac_good tv (by rintro x ⟨⟩; exact ih) p n h
    exact ⟨h, fun p n hp => sumO_good h p n hp⟩
theorem parse_good (S : ByteArray) : Good S 0 0 (parse tv S) := by
  refine good_then ((lev_good tv S 31).2 0 0 (Nat.zero_le _)) fun t u p n lg h => ?_
  split
  · exact ⟨h.le, .inl rfl⟩
  · exact h
end Go.Proofs.YtcmkgoikmleanaaGreatDoor

namespace Go.Proofs.YtcmkgoikmleanaaGreatDoor
set_option maxRecDepth 20000
open Go.RowKit

/-- What an expression's struct holds. -/
structure Ev where
  k : Int
  r : Rv
  s : ByteArray
  K : Option Addr
  n : Nat
  c : Nat
def Ez : Ev := ⟨0, ⟨false, none, 0, 0, none, 0, 0⟩, ⟨#[]⟩, none, 0, 0⟩

/-- All blocks but one stand as they stood. -/
structure But (g : Nat) (w w' : World) : Prop where
  os : w'.os = w.os
  tape : w'.tape = w.tape
  output : w'.output = w.output
  size : w.heap.size ≤ w'.heap.size
  block : ∀ k, k < w.heap.size → k ≠ g → w'.heap[k]? = w.heap[k]?
theorem But.refl (g : Nat) (w : World) : But g w w := ⟨rfl, rfl, rfl, Nat.le_refl _, fun _ _ _ => rfl⟩
theorem But.trans {g : Nat} {a b c : World} (h : But g a b) (k : But g b c) : But g a c :=
  ⟨k.os.trans h.os, k.tape.trans h.tape, k.output.trans h.output, Nat.le_trans h.size k.size, fun i hi hg => (k.block i (Nat.lt_of_lt_of_le hi h.size) hg).trans (h.block i hi hg)⟩
theorem But.of {g : Nat} {w w' : World} (h : Below w.heap.size w w') : But g w w' := ⟨h.os, h.tape, h.output, h.size, fun k hk _ => h.block k hk⟩
theorem But.alloc {g : Nat} {w w' : World} (h : But g w w') (o : Obj) : But g w (w'.alloc o) := h.trans (.of ((Below.refl _ _).alloc (Nat.le_refl _) o))
theorem But.drew {g : Nat} {w w' : World} (h : But g w w') : But g w w'.drew := h.trans ⟨rfl, rfl, rfl, Nat.le_refl _, fun _ _ _ => rfl⟩
theorem But.drewN {g : Nat} {w w' : World} (h : But g w w') (k : Nat) : But g w (w'.drewN k) := h.trans (.of (below_drewN' _ w' k))
theorem But.set {g : Nat} {w w' : World} (h : But g w w') (j : Nat) (x : Value) : But g w (w'.setCell ⟨g, j, none⟩ x) := by
  refine h.trans ⟨rfl, rfl, rfl, by simp, fun k _ hk => ?_⟩
  show (w'.heap.modify g _)[k]? = _
  rw [Array.getElem?_modify, if_neg (Ne.symm hk)]
theorem But.below {g B : Nat} {w w' : World} (h : But g w w') (hg : B ≤ g) (hB : B ≤ w.heap.size) : Below B w w' :=
  ⟨h.os, h.tape, h.output, h.size, fun k hk => h.block k (Nat.lt_of_lt_of_le hk hB) (by omega)⟩
theorem But.new {g : Nat} {w w' : World} (h : But g w w') (hg : w.heap.size ≤ g) : Below w.heap.size w w' := h.below hg (Nat.le_refl _)

/-- A block that holds a struct of six cells. -/
def C6 (w : World) (b : Nat) (x0 x1 x2 x3 x4 x5 : Value) : Prop := w.heap[b]? = some (.cells #[x0, x1, x2, x3, x4, x5] 27 (0, 0))
section
variable {w w' : World} {b : Nat} {x0 x1 x2 x3 x4 x5 : Value}
theorem C6.lt (h : C6 w b x0 x1 x2 x3 x4 x5) : b < w.heap.size := by
  rcases Nat.lt_or_ge b w.heap.size with h1 | h1
  · exact h1
  · have : w.heap[b]? = none := Array.getElem?_eq_none h1
    rw [C6, this] at h; cases h
theorem C6.below (h : C6 w b x0 x1 x2 x3 x4 x5) (hb : Below w.heap.size w w') : C6 w' b x0 x1 x2 x3 x4 x5 := (hb.block b h.lt).trans h
theorem C6.but {g : Nat} (h : C6 w b x0 x1 x2 x3 x4 x5) (hb : But g w w') (hg : b ≠ g) : C6 w' b x0 x1 x2 x3 x4 x5 := (hb.block b h.lt hg).trans h
theorem C6.new (w : World) (x0 x1 x2 x3 x4 x5 : Value) : C6 (w.alloc (.cells #[x0, x1, x2, x3, x4, x5] 27)) w.heap.size x0 x1 x2 x3 x4 x5 := heap_alloc_new w _
theorem C6.newAt {w : World} {b : Nat} (x0 x1 x2 x3 x4 x5 : Value) (hb : b = w.heap.size) : C6 (w.alloc (.cells #[x0, x1, x2, x3, x4, x5] 27)) b x0 x1 x2 x3 x4 x5 := by subst hb; exact C6.new w _ _ _ _ _ _
theorem C6.alloc (h : C6 w b x0 x1 x2 x3 x4 x5) (o : Obj) : C6 (w.alloc o) b x0 x1 x2 x3 x4 x5 := h.below ((Below.refl _ _).alloc (Nat.le_refl _) o)
theorem C6.drew (h : C6 w b x0 x1 x2 x3 x4 x5) : C6 w.drew b x0 x1 x2 x3 x4 x5 := h
theorem C6.setOther {g : Nat} (h : C6 w b x0 x1 x2 x3 x4 x5) (hg : b ≠ g) (j : Nat) (x : Value) : C6 (w.setCell ⟨g, j, none⟩ x) b x0 x1 x2 x3 x4 x5 := h.but ((But.refl g w).set j x) hg
theorem C6.facts (h : C6 w b x0 x1 x2 x3 x4 x5) :
    w.cell? ⟨b, 0, none⟩ = some x0 ∧ w.cell? ⟨b, 1, none⟩ = some x1 ∧ w.cell? ⟨b, 2, none⟩ = some x2 ∧ w.cell? ⟨b, 3, none⟩ = some x3 ∧ w.cell? ⟨b, 4, none⟩ = some x4 ∧ w.cell? ⟨b, 5, none⟩ = some x5 := by
  have h' : w.heap[b]? = some (.cells #[x0, x1, x2, x3, x4, x5] 27 (0, 0)) := h
  refine ⟨?_, ?_, ?_, ?_, ?_, ?_⟩ <;> simp [World.cell?, h']
theorem C6.thaw (h : C6 w b x0 x1 x2 x3 x4 x5) :
    w.frozen? ⟨b, 0, none⟩ = false ∧ w.frozen? ⟨b, 1, none⟩ = false ∧ w.frozen? ⟨b, 2, none⟩ = false ∧ w.frozen? ⟨b, 3, none⟩ = false ∧ w.frozen? ⟨b, 4, none⟩ = false ∧ w.frozen? ⟨b, 5, none⟩ = false := by
  have h' : w.heap[b]? = some (.cells #[x0, x1, x2, x3, x4, x5] 27 (0, 0)) := h
  refine ⟨?_, ?_, ?_, ?_, ?_, ?_⟩ <;> simp [World.frozen?, h']
end
/-- The struct at a block, written anew. -/
abbrev put6 (w : World) (b : Nat) (x0 x1 x2 x3 x4 x5 : Value) : World :=
  (((((w.setCell ⟨b, 0, none⟩ x0).setCell ⟨b, 1, none⟩ x1).setCell ⟨b, 2, none⟩ x2).setCell ⟨b, 3, none⟩ x3).setCell ⟨b, 4, none⟩ x4).setCell ⟨b, 5, none⟩ x5
theorem C6.set0 {w : World} {b : Nat} {y0 y1 y2 y3 y4 y5 : Value} (h : C6 w b y0 y1 y2 y3 y4 y5) (x : Value) : C6 (w.setCell ⟨b, 0, none⟩ x) b x y1 y2 y3 y4 y5 := by
  have h' : w.heap[b]? = some (.cells #[y0, y1, y2, y3, y4, y5] 27 (0, 0)) := h
  show (w.heap.modify b _)[b]? = _
  rw [Array.getElem?_modify, if_pos rfl, h']; rfl
theorem C6.set1 {w : World} {b : Nat} {y0 y1 y2 y3 y4 y5 : Value} (h : C6 w b y0 y1 y2 y3 y4 y5) (x : Value) : C6 (w.setCell ⟨b, 1, none⟩ x) b y0 x y2 y3 y4 y5 := by
  have h' : w.heap[b]? = some (.cells #[y0, y1, y2, y3, y4, y5] 27 (0, 0)) := h
  show (w.heap.modify b _)[b]? = _
  rw [Array.getElem?_modify, if_pos rfl, h']; rfl
theorem C6.set2 {w : World} {b : Nat} {y0 y1 y2 y3 y4 y5 : Value} (h : C6 w b y0 y1 y2 y3 y4 y5) (x : Value) : C6 (w.setCell ⟨b, 2, none⟩ x) b y0 y1 x y3 y4 y5 := by
  have h' : w.heap[b]? = some (.cells #[y0, y1, y2, y3, y4, y5] 27 (0, 0)) := h
  show (w.heap.modify b _)[b]? = _
  rw [Array.getElem?_modify, if_pos rfl, h']; rfl
theorem C6.set3 {w : World} {b : Nat} {y0 y1 y2 y3 y4 y5 : Value} (h : C6 w b y0 y1 y2 y3 y4 y5) (x : Value) : C6 (w.setCell ⟨b, 3, none⟩ x) b y0 y1 y2 x y4 y5 := by
  have h' : w.heap[b]? = some (.cells #[y0, y1, y2, y3, y4, y5] 27 (0, 0)) := h
  show (w.heap.modify b _)[b]? = _
  rw [Array.getElem?_modify, if_pos rfl, h']; rfl
theorem C6.set4 {w : World} {b : Nat} {y0 y1 y2 y3 y4 y5 : Value} (h : C6 w b y0 y1 y2 y3 y4 y5) (x : Value) : C6 (w.setCell ⟨b, 4, none⟩ x) b y0 y1 y2 y3 x y5 := by
  have h' : w.heap[b]? = some (.cells #[y0, y1, y2, y3, y4, y5] 27 (0, 0)) := h
  show (w.heap.modify b _)[b]? = _
  rw [Array.getElem?_modify, if_pos rfl, h']; rfl
theorem C6.set5 {w : World} {b : Nat} {y0 y1 y2 y3 y4 y5 : Value} (h : C6 w b y0 y1 y2 y3 y4 y5) (x : Value) : C6 (w.setCell ⟨b, 5, none⟩ x) b y0 y1 y2 y3 y4 x := by
  have h' : w.heap[b]? = some (.cells #[y0, y1, y2, y3, y4, y5] 27 (0, 0)) := h
  show (w.heap.modify b _)[b]? = _
  rw [Array.getElem?_modify, if_pos rfl, h']; rfl
theorem C6.put {w : World} {b : Nat} {y0 y1 y2 y3 y4 y5 : Value} (h : C6 w b y0 y1 y2 y3 y4 y5) (x0 x1 x2 x3 x4 x5 : Value) : C6 (put6 w b x0 x1 x2 x3 x4 x5) b x0 x1 x2 x3 x4 x5 := (((((h.set0 x0).set1 x1).set2 x2).set3 x3).set4 x4).set5 x5
theorem put6_but {w : World} {b : Nat} (x0 x1 x2 x3 x4 x5 : Value) : But b w (put6 w b x0 x1 x2 x3 x4 x5) := (((((((But.refl b w).set _ _).set _ _).set _ _).set _ _).set _ _).set _ _)
theorem put6_below {w : World} {b B : Nat} (hB : B ≤ b) (x0 x1 x2 x3 x4 x5 : Value) : Below B w (put6 w b x0 x1 x2 x3 x4 x5) := by
  have h1 : ∀ (w : World) (j : Nat) (x : Value), Below B w (w.setCell ⟨b, j, none⟩ x) := fun w j x => (Below.refl B w).setCell (by simpa using hB) x
  exact (((((h1 _ _ _).trans (h1 _ _ _)).trans (h1 _ _ _)).trans (h1 _ _ _)).trans (h1 _ _ _)).trans (h1 _ _ _)
theorem ret6c {fn : Func} {t : Tmp} {R : Ending → World → Prop} {a : Act} {w : World} {b : Nat} {x0 x1 x2 x3 x4 x5 : Value} (hres : fn.results = #[.cell t 27]) (ht : a.tmps.getD t undef = .pointer (some ⟨b, 0, none⟩)) (hd : a.defers = [])
    (hk : C6 w b x0 x1 x2 x3 x4 x5) (hR : R (.returned (.agg #[x0, x1, x2, x3, x4, x5])) w) : bodyPost Tryz.prog fn R .ret a w := by
  obtain ⟨q0, q1, q2, q3, q4, q5⟩ := hk.facts
  have ht' : (a.tmps[t]?.getD undef) = .pointer (some ⟨b, 0, none⟩) := by simpa using ht
  refine bodyPost_ret (v := .agg #[x0, x1, x2, x3, x4, x5]) ?_ hd hR
  simp [results, hres, go_sem, ht', q0, q1, q2, q3, q4, q5]
theorem ret6 {fn : Func} {t : Tmp} {R : Ending → World → Prop} {a : Act} {w : World} {b : Nat} {y0 y1 y2 y3 y4 y5 x0 x1 x2 x3 x4 x5 : Value} (hres : fn.results = #[.cell t 27]) (ht : a.tmps.getD t undef = .pointer (some ⟨b, 0, none⟩)) (hd : a.defers = [])
    (hk : C6 w b y0 y1 y2 y3 y4 y5) (hR : R (.returned (.agg #[x0, x1, x2, x3, x4, x5])) (put6 w b x0 x1 x2 x3 x4 x5)) : bodyPost Tryz.prog fn R .ret a (put6 w b x0 x1 x2 x3 x4 x5) := ret6c hres ht hd (hk.put x0 x1 x2 x3 x4 x5) hR

/-- What the program's reader holds, in a world that stands as w0 below. -/
structure Rdr (w0 : World) (g : Nat) (S : ByteArray) (w : World) (p d n : Nat) : Prop where
  ge : w0.heap.size ≤ g
  below : Below w0.heap.size w0 w
  blk : w.heap[g]? = some (.cells #[.string S, .int .i64 p, .int .i64 d, .int .i64 n] 66 (0, 0))
section
variable {w0 w w' : World} {g p d n : Nat} {S : ByteArray}
theorem Rdr.lt (h : Rdr w0 g S w p d n) : g < w.heap.size := by
  rcases Nat.lt_or_ge g w.heap.size with h1 | h1
  · exact h1
  · have : w.heap[g]? = none := Array.getElem?_eq_none h1
    rw [h.blk] at this; cases this
theorem Rdr.facts (h : Rdr w0 g S w p d n) : w.cell? ⟨g, 0, none⟩ = some (.string S) ∧ w.cell? ⟨g, 1, none⟩ = some (.int .i64 p) ∧ w.cell? ⟨g, 2, none⟩ = some (.int .i64 d) ∧ w.cell? ⟨g, 3, none⟩ = some (.int .i64 n) ∧ w.frozen? ⟨g, 1, none⟩ = false ∧ w.frozen? ⟨g, 2, none⟩ = false ∧ w.frozen? ⟨g, 3, none⟩ = false := by
  have h' := h.blk
  refine ⟨?_, ?_, ?_, ?_, ?_, ?_, ?_⟩ <;> simp [World.cell?, World.frozen?, h']
theorem Rdr.next (h : Rdr w0 g S w p d n) (hb : Below w.heap.size w w') : Rdr w0 g S w' p d n :=
  ⟨h.ge, h.below.trans (hb.mono h.below.size), (hb.block g h.lt).trans h.blk⟩
theorem Rdr.alloc (h : Rdr w0 g S w p d n) (o : Obj) : Rdr w0 g S (w.alloc o) p d n := h.next ((Below.refl _ _).alloc (Nat.le_refl _) o)
theorem Rdr.drew (h : Rdr w0 g S w p d n) : Rdr w0 g S w.drew p d n := h.next ⟨rfl, rfl, rfl, Nat.le_refl _, fun _ _ => rfl⟩
theorem Rdr.drewN (h : Rdr w0 g S w p d n) (k : Nat) : Rdr w0 g S (w.drewN k) p d n := h.next (below_drewN' _ w k)
theorem Rdr.other (h : Rdr w0 g S w p d n) {b : Nat} (hg : b ≠ g) (hb : w0.heap.size ≤ b) (j : Nat) (x : Value) : Rdr w0 g S (w.setCell ⟨b, j, none⟩ x) p d n :=
  ⟨h.ge, h.below.trans (((But.refl b w).set j x).below hb h.below.size), (((But.refl b w).set j x).block g h.lt (Ne.symm hg)).trans h.blk⟩
theorem Rdr.put (h : Rdr w0 g S w p d n) {b : Nat} (hg : b ≠ g) (hb : w0.heap.size ≤ b) (x0 x1 x2 x3 x4 x5 : Value) : Rdr w0 g S (put6 w b x0 x1 x2 x3 x4 x5) p d n :=
  (((((h.other hg hb _ _).other hg hb _ _).other hg hb _ _).other hg hb _ _).other hg hb _ _).other hg hb _ _
theorem Rdr.set1 (h : Rdr w0 g S w p d n) {q : Nat} {v : Int} (hv : v = (q : Int)) : Rdr w0 g S (w.setCell ⟨g, 1, none⟩ (.int .i64 v)) q d n := by
  subst hv
  refine ⟨h.ge, h.below.trans (((But.refl g w).set _ _).below h.ge h.below.size), ?_⟩
  show (w.heap.modify g _)[g]? = _
  rw [Array.getElem?_modify, if_pos rfl, h.blk]; rfl
theorem Rdr.set2 (h : Rdr w0 g S w p d n) {q : Nat} {v : Int} (hv : v = (q : Int)) : Rdr w0 g S (w.setCell ⟨g, 2, none⟩ (.int .i64 v)) p q n := by
  subst hv
  refine ⟨h.ge, h.below.trans (((But.refl g w).set _ _).below h.ge h.below.size), ?_⟩
  show (w.heap.modify g _)[g]? = _
  rw [Array.getElem?_modify, if_pos rfl, h.blk]; rfl
theorem Rdr.set3 (h : Rdr w0 g S w p d n) {q : Nat} {v : Int} (hv : v = (q : Int)) : Rdr w0 g S (w.setCell ⟨g, 3, none⟩ (.int .i64 v)) p d q := by
  subst hv
  refine ⟨h.ge, h.below.trans (((But.refl g w).set _ _).below h.ge h.below.size), ?_⟩
  show (w.heap.modify g _)[g]? = _
  rw [Array.getElem?_modify, if_pos rfl, h.blk]; rfl
end
/-- How far a reader is. -/
def atOf (g : Nat) (w : World) : Nat := match w.cell? ⟨g, 1, none⟩ with | some (.int _ i) => i.toNat | _ => 0
theorem Rdr.atOf {w0 w : World} {g p d n : Nat} {S : ByteArray} (h : Rdr w0 g S w p d n) : atOf g w = p := by
  unfold Go.Proofs.YtcmkgoikmleanaaGreatDoor.atOf; rw [h.facts.2.1]; rfl

set_option maxHeartbeats 400000 in
theorem isDigit_c (c : UInt8) (w : World) : Calls Tryz.prog 104 #[.int .u8 c.toNat] w fun e w' => e = .returned (.bool (isDg c)) ∧ w = w' := by
  unfold isDg
  by_cases h1 : 48 ≤ c.toNat
  · have i1 : (48 : Int) ≤ (c.toNat : Int) := by omega
    by_cases h2 : c.toNat ≤ 57
    · have i2 : (c.toNat : Int) ≤ 57 := by omega
      rw [decide_eq_true h1, decide_eq_true h2]
      go_enter Tryz.func104, Tryz.ntmps104
      go_wp2
      go_ret
      exact ⟨rfl, rfl⟩
    · have i2 : ¬ (c.toNat : Int) ≤ 57 := by omega
      rw [decide_eq_false h2, Bool.and_false]
      go_enter Tryz.func104, Tryz.ntmps104
      go_wp2
      go_ret
      exact ⟨rfl, rfl⟩
  · have i1 : ¬ (48 : Int) ≤ (c.toNat : Int) := by omega
    rw [decide_eq_false h1, Bool.false_and]
    go_enter Tryz.func104, Tryz.ntmps104
    go_wp2
    go_ret
    exact ⟨rfl, rfl⟩
end Go.Proofs.YtcmkgoikmleanaaGreatDoor

namespace Go.Proofs.YtcmkgoikmleanaaGreatDoor
set_option maxRecDepth 20000
open Go.RowKit

theorem u8_ne {c : UInt8} {k : Nat} (hk : k < 256) (h : c ≠ UInt8.ofNat k) : c.toNat ≠ k := by
  intro e
  apply h
  apply UInt8.toNat_inj.1
  rw [e]
  simp [UInt8.toNat_ofNat']; omega
theorem u8_eq {c : UInt8} {k : Nat} (hk : k < 256) (h : c = UInt8.ofNat k) : c.toNat = k := by
  subst h
  simp [UInt8.toNat_ofNat']; omega

set_option maxHeartbeats 400000 in
theorem isLetter_c (c : UInt8) (w : World) : Calls Tryz.prog 106 #[.int .u8 c.toNat] w fun e w' => e = .returned (.bool (isLw c)) ∧ w = w' := by
  unfold isLw
  by_cases h1 : 97 ≤ c.toNat
  · have i1 : (97 : Int) ≤ (c.toNat : Int) := by omega
    by_cases h2 : c.toNat ≤ 122
    · have i2 : (c.toNat : Int) ≤ 122 := by omega
      rw [decide_eq_true h1, decide_eq_true h2]
      go_enter Tryz.func106, Tryz.ntmps106
      go_wp2
      go_ret
      exact ⟨rfl, rfl⟩
    · have i2 : ¬ (c.toNat : Int) ≤ 122 := by omega
      rw [decide_eq_false h2, Bool.and_false]
      go_enter Tryz.func106, Tryz.ntmps106
      go_wp2
      go_ret
      exact ⟨rfl, rfl⟩
  · have i1 : ¬ (97 : Int) ≤ (c.toNat : Int) := by omega
    rw [decide_eq_false h1, Bool.false_and]
    go_enter Tryz.func106, Tryz.ntmps106
    go_wp2
    go_ret
    exact ⟨rfl, rfl⟩

set_option maxHeartbeats 400000 in
theorem isNameByte_c (c : UInt8) (w : World) : Calls Tryz.prog 110 #[.int .u8 c.toNat] w fun e w' => e = .returned (.bool (isNb c)) ∧ w = w' := by
  unfold isNb
  cases h1 : isLw c with
  | true =>
    go_enter Tryz.func110, Tryz.ntmps110
    go_wp2_with fail
    refine (isLetter_c c _).mono ?_
    rintro e w' ⟨rfl, rfl⟩
    rw [h1]
    go_wp2
    go_ret
    exact ⟨rfl, rfl⟩
  | false =>
    cases h2 : isDg c with
    | true =>
      go_enter Tryz.func110, Tryz.ntmps110
      go_wp2_with fail
      refine (isLetter_c c _).mono ?_
      rintro e w' ⟨rfl, rfl⟩
      rw [h1]
      go_wp2_with fail
      refine (isDigit_c c _).mono ?_
      rintro e w' ⟨rfl, rfl⟩
      rw [h2]
      go_wp2
      go_ret
      exact ⟨rfl, rfl⟩
    | false =>
      by_cases h3 : c = 95
      · have I3 : Hid ((c.toNat : Int) = 95) := by have := u8_eq (k := 95) (by omega) h3; exact Lib.hid (by omega)
        have h3' : (c == 95) = true := by rw [h3]; rfl
        rw [h3']
        clear h3' h3
        go_enter Tryz.func110, Tryz.ntmps110
        go_wp2_with fail
        refine (isLetter_c c _).mono ?_
        rintro e w' ⟨rfl, rfl⟩
        rw [h1]
        go_wp2_with fail
        refine (isDigit_c c _).mono ?_
        rintro e w' ⟨rfl, rfl⟩
        rw [h2]
        have i3 := I3.out
        go_wp2
        go_ret
        exact ⟨rfl, rfl⟩
      · have n3 : c.toNat ≠ 95 := u8_ne (k := 95) (by omega) h3
        have i3 : ¬ (c.toNat : Int) = 95 := by omega
        have b3 : ((c.toNat : Int) == 95) = false := beq_eq_false_iff_ne.2 i3
        have h3' : (c == 95) = false := beq_eq_false_iff_ne.2 h3
        rw [h3']
        clear h3' h3
        go_enter Tryz.func110, Tryz.ntmps110
        go_wp2_with fail
        refine (isLetter_c c _).mono ?_
        rintro e w' ⟨rfl, rfl⟩
        rw [h1]
        go_wp2_with fail
        refine (isDigit_c c _).mono ?_
        rintro e w' ⟨rfl, rfl⟩
        rw [h2]
        go_wp2
        go_ret
        exact ⟨rfl, rfl⟩

set_option maxHeartbeats 400000 in
theorem kSum_c (c : UInt8) (w : World) : Calls Tryz.prog 54 #[.int .u8 c.toNat] w fun e w' => e = .returned (.int .i64 (kSum c)) ∧ w = w' := by
  unfold kSum
  by_cases h1 : c = 43
  · have i1 : (c.toNat : Int) = 43 := by have := u8_eq (k := 43) (by omega) h1; omega
    rw [if_pos h1]
    clear h1
    go_enter Tryz.func54, Tryz.ntmps54
    go_wp2
    go_ret
    exact ⟨rfl, rfl⟩
  · have n1 : c.toNat ≠ 43 := u8_ne (k := 43) (by omega) h1
    have i1 : ¬ (c.toNat : Int) = 43 := by omega
    rw [if_neg h1]
    by_cases h2 : c = 45
    · have i2 : (c.toNat : Int) = 45 := by have := u8_eq (k := 45) (by omega) h2; omega
      rw [if_pos h2]
      clear h2
      go_enter Tryz.func54, Tryz.ntmps54
      go_wp2
      go_ret
      exact ⟨rfl, rfl⟩
    · have n2 : c.toNat ≠ 45 := u8_ne (k := 45) (by omega) h2
      have i2 : ¬ (c.toNat : Int) = 45 := by omega
      rw [if_neg h2]
      clear h1 h2
      go_enter Tryz.func54, Tryz.ntmps54
      go_wp2
      go_ret
      exact ⟨rfl, rfl⟩
set_option maxHeartbeats 400000 in
theorem kPro_c (c : UInt8) (w : World) : Calls Tryz.prog 80 #[.int .u8 c.toNat] w fun e w' => e = .returned (.int .i64 (kPro c)) ∧ w = w' := by
  unfold kPro
  by_cases h1 : c = 42
  · have i1 : (c.toNat : Int) = 42 := by have := u8_eq (k := 42) (by omega) h1; omega
    rw [if_pos h1]
    clear h1
    go_enter Tryz.func80, Tryz.ntmps80
    go_wp2
    go_ret
    exact ⟨rfl, rfl⟩
  · have n1 : c.toNat ≠ 42 := u8_ne (k := 42) (by omega) h1
    have i1 : ¬ (c.toNat : Int) = 42 := by omega
    rw [if_neg h1]
    by_cases h2 : c = 47
    · have i2 : (c.toNat : Int) = 47 := by have := u8_eq (k := 47) (by omega) h2; omega
      rw [if_pos h2]
      clear h2
      go_enter Tryz.func80, Tryz.ntmps80
      go_wp2
      go_ret
      exact ⟨rfl, rfl⟩
    · have n2 : c.toNat ≠ 47 := u8_ne (k := 47) (by omega) h2
      have i2 : ¬ (c.toNat : Int) = 47 := by omega
      rw [if_neg h2]
      clear h1 h2
      go_enter Tryz.func80, Tryz.ntmps80
      go_wp2
      go_ret
      exact ⟨rfl, rfl⟩

/-- What goes up by panic. -/
def flt (p : Nat) (c : Nat) : Ending := .panicked [{ v := .iface 62 (.agg #[.int .i64 p, .int .i64 c]), recovered := false }]
set_option maxHeartbeats 400000 in
theorem fail_c {w0 w : World} {g p d n : Nat} {S : ByteArray} (c : Nat) (h : Rdr w0 g S w p d n) :
    Calls Tryz.prog 32 #[.pointer (some ⟨g, 0, none⟩), .int .i64 c] w fun e w' => e = flt p c ∧ w = w' := by
  obtain ⟨h0, h1, h2, h3, f1, f2, f3⟩ := h.facts
  go_enter Tryz.func32, Tryz.ntmps32
  go_wp2
  exact ⟨rfl, rfl, rfl⟩
end Go.Proofs.YtcmkgoikmleanaaGreatDoor

namespace Go.Proofs.YtcmkgoikmleanaaGreatDoor
set_option maxRecDepth 20000
open Go.RowKit

theorem skp_in {S : ByteArray} {p j : Nat} (h : p ≤ j) (h2 : j < skp S p) : j < S.size ∧ (bt S j).toNat = 32 := by
  obtain ⟨h3, h4⟩ := run_in _ S p j h h2
  refine ⟨h3, ?_⟩
  have : bt S j = 32 := by simpa using h4
  rw [this]; rfl
theorem skp_out {S : ByteArray} {p : Nat} (hp : p ≤ S.size) (h : skp S p < S.size) : (bt S (skp S p)).toNat ≠ 32 := by
  have h1 := run_out (· == 32) S p hp h
  intro e
  have : bt S (skp S p) = 32 := UInt8.toNat_inj.1 e
  have h2 : (bt S (skp S p) == 32) = false := h1
  rw [this] at h2
  exact absurd h2 (by decide)

set_option maxHeartbeats 1600000 in
theorem next_c {w0 w : World} {g p d n : Nat} {S : ByteArray} (h : Rdr w0 g S w p d n) (hp : p ≤ S.size) (hs : S.size ≤ 100000) :
    Calls Tryz.prog 77 #[.pointer (some ⟨g, 0, none⟩)] w fun e w' => e = .returned (.int .u8 (bt S (skp S p)).toNat) ∧ Rdr w0 g S w' (skp S p) d n ∧ But g w w' := by
  have hq := skp_le S p
  have hq2 := skp_ge S hp
  have HI : Hid (∀ j, p ≤ j → j < skp S p → j < S.size ∧ (bt S j).toNat = 32) := fun j => skp_in
  have HO : Hid (skp S p < S.size → (bt S (skp S p)).toNat ≠ 32) := fun h => skp_out hp h
  generalize skp S p = q at *
  go_enter Tryz.func77, Tryz.ntmps77
  go_wp2
  go_loopw [] (fun wr => ∃ x : Nat, p ≤ x ∧ x ≤ q ∧ Rdr w0 g S wr x d n ∧ But g w wr) (fun wr => q - atOf g wr)
  case atStart => exact ⟨p, Nat.le_refl _, hq, h, But.refl _ _⟩
  case round =>
    obtain ⟨x, hx1, hx2, hr, hbu⟩ := hrel
    have hat := hr.atOf
    obtain ⟨h0, h1, h2, h3, f1, f2, f3⟩ := hr.facts
    by_cases hxq : x < q
    · obtain ⟨hl, hv⟩ := HI.out x hx1 hxq
      have i1 : (x : Int) < (S.size : Int) := by omega
      have i0 : (0 : Int) ≤ (x : Int) := by omega
      have i2 : (x : Int) ≤ 100000 := by omega
      rw [bt_lt hl] at hv
      clear hat
      go_wp2
      go_quiet (fail)
      go_wp2
      go_quiet (fail)
      go_wp2
      go_roundw
      case rel => exact ⟨x + 1, by omega, by omega, (hr.drewN _).set1 (by omega), (hbu.drewN _).set _ _⟩
      case measure =>
        rw [((hr.drewN _).set1 (q := x + 1) (v := (x : Int) + 1) (by omega)).atOf, hr.atOf]; omega
    · have e : x = q := by omega
      subst e
      by_cases hl : x < S.size
      · have i1 : (x : Int) < (S.size : Int) := by omega
        have i0 : (0 : Int) ≤ (x : Int) := by omega
        have hv := HO.out hl
        rw [bt_lt hl] at hv
        clear hat
        go_wp2
        go_quiet (fail)
        go_wp2
        go_quiet (fail)
        go_wp2
        go_quiet (fail)
        go_wp2
        go_ret
        exact ⟨by rw [bt_lt hl]; rfl, ((hr.drewN _).drewN _).drewN _, ((hbu.drewN _).drewN _).drewN _⟩
      · have i1 : ¬ (x : Int) < (S.size : Int) := by omega
        clear hat
        go_wp2
        go_quiet (fail)
        go_wp2
        go_ret
        exact ⟨by rw [bt_ge (by omega)]; rfl, hr.drewN _, hbu.drewN _⟩
end Go.Proofs.YtcmkgoikmleanaaGreatDoor

namespace Go.Proofs.YtcmkgoikmleanaaGreatDoor
set_option maxRecDepth 20000
open Go.RowKit

theorem isDigit_q (c : UInt8) (b : Bool) (h : isDg c = b) (w : World) (n : Nat) : Calls Tryz.prog 104 #[.int .u8 c.toNat] (w.drewN n) fun e w'' => e = .returned (.bool b) ∧ ∃ m, w'' = w.drewN m :=
  (isDigit_c c _).mono fun e w' ⟨he, hw⟩ => ⟨by rw [he, h], n, hw.symm⟩
theorem isNameByte_q (c : UInt8) (b : Bool) (h : isNb c = b) (w : World) (n : Nat) : Calls Tryz.prog 110 #[.int .u8 c.toNat] (w.drewN n) fun e w'' => e = .returned (.bool b) ∧ ∃ m, w'' = w.drewN m :=
  (isNameByte_c c _).mono fun e w' ⟨he, hw⟩ => ⟨by rw [he, h], n, hw.symm⟩

set_option maxHeartbeats 3200000 in
theorem passD_c {w0 w : World} {g p d n : Nat} {S : ByteArray} (h : Rdr w0 g S w p d n) (hp : p ≤ S.size) (hs : S.size ≤ 100000) :
    Calls Tryz.prog 137 #[.pointer (some ⟨g, 0, none⟩), .func (.func 104) #[] #[]] w fun e w' => e = .returned (.int .i64 ((run isDg S p - p : Nat) : Int)) ∧ Rdr w0 g S w' (run isDg S p) d n ∧ But g w w' := by
  have hq := le_run isDg S p
  have hq2 := run_le isDg S hp
  have HI : Hid (∀ j, p ≤ j → j < run isDg S p → j < S.size ∧ isDg (bt S j) = true) := fun j => run_in isDg S p j
  have HO : Hid (run isDg S p < S.size → isDg (bt S (run isDg S p)) = false) := fun h => run_out isDg S p hp h
  generalize run isDg S p = q at *
  obtain ⟨h0, h1, h2, h3, f1, f2, f3⟩ := h.facts
  go_enter Tryz.func137, Tryz.ntmps137
  go_wp2
  clear h0 h1 h2 h3 f1 f2 f3
  go_loopw [] (fun wr => ∃ x : Nat, p ≤ x ∧ x ≤ q ∧ Rdr w0 g S wr x d n ∧ But g w wr) (fun wr => q - atOf g wr)
  case atStart => exact ⟨p, Nat.le_refl _, hq, h, But.refl _ _⟩
  case round =>
    obtain ⟨x, hx1, hx2, hr, hbu⟩ := hrel
    obtain ⟨h0, h1, h2, h3, f1, f2, f3⟩ := hr.facts
    by_cases hxq : x < q
    · obtain ⟨hl, hv⟩ := HI.out x hx1 hxq
      have i1 : (x : Int) < (S.size : Int) := by omega
      have i0 : (0 : Int) ≤ (x : Int) := by omega
      have i2 : (x : Int) ≤ 100000 := by omega
      rw [bt_lt hl] at hv
      have HV := Lib.hid hv
      clear hv
      go_wp2
      go_quiet ((go_at_call 104; exact isDigit_q S[x] true HV.out _ _))
      go_wp2
      go_roundw
      case rel => exact ⟨x + 1, by omega, by omega, (hr.drewN _).set1 (by omega), (hbu.drewN _).set _ _⟩
      case measure =>
        rw [((hr.drewN _).set1 (q := x + 1) (v := (x : Int) + 1) (by omega)).atOf, hr.atOf]; omega
    · have e : x = q := by omega
      subst e
      by_cases hl : x < S.size
      · have i1 : (x : Int) < (S.size : Int) := by omega
        have i0 : (0 : Int) ≤ (x : Int) := by omega
        have j1 : (p : Int) ≤ (x : Int) := by omega
        have j0 : (0 : Int) ≤ (p : Int) := by omega
        have i2 : (x : Int) ≤ 100000 := by omega
        have hv := HO.out hl
        rw [bt_lt hl] at hv
        have HV := Lib.hid hv
        clear hv
        go_wp2
        go_quiet ((go_at_call 104; exact isDigit_q S[x] false HV.out _ _))
        go_wp2
        go_ret
        exact ⟨by rw [Int.ofNat_sub (by omega)]; rfl, hr.drewN _, hbu.drewN _⟩
      · have i1 : ¬ (x : Int) < (S.size : Int) := by omega
        have i0 : (0 : Int) ≤ (x : Int) := by omega
        have j1 : (p : Int) ≤ (x : Int) := by omega
        have j0 : (0 : Int) ≤ (p : Int) := by omega
        have i2 : (x : Int) ≤ 100000 := by omega
        go_wp2
        go_quiet (fail)
        go_wp2
        go_ret
        exact ⟨by rw [Int.ofNat_sub (by omega)]; rfl, hr.drewN _, hbu.drewN _⟩

set_option maxHeartbeats 3200000 in
theorem passN_c {w0 w : World} {g p d n : Nat} {S : ByteArray} (h : Rdr w0 g S w p d n) (hp : p ≤ S.size) (hs : S.size ≤ 100000) :
    Calls Tryz.prog 137 #[.pointer (some ⟨g, 0, none⟩), .func (.func 110) #[] #[]] w fun e w' => e = .returned (.int .i64 ((run isNb S p - p : Nat) : Int)) ∧ Rdr w0 g S w' (run isNb S p) d n ∧ But g w w' := by
  have hq := le_run isNb S p
  have hq2 := run_le isNb S hp
  have HI : Hid (∀ j, p ≤ j → j < run isNb S p → j < S.size ∧ isNb (bt S j) = true) := fun j => run_in isNb S p j
  have HO : Hid (run isNb S p < S.size → isNb (bt S (run isNb S p)) = false) := fun h => run_out isNb S p hp h
  generalize run isNb S p = q at *
  obtain ⟨h0, h1, h2, h3, f1, f2, f3⟩ := h.facts
  go_enter Tryz.func137, Tryz.ntmps137
  go_wp2
  clear h0 h1 h2 h3 f1 f2 f3
  go_loopw [] (fun wr => ∃ x : Nat, p ≤ x ∧ x ≤ q ∧ Rdr w0 g S wr x d n ∧ But g w wr) (fun wr => q - atOf g wr)
  case atStart => exact ⟨p, Nat.le_refl _, hq, h, But.refl _ _⟩
  case round =>
    obtain ⟨x, hx1, hx2, hr, hbu⟩ := hrel
    obtain ⟨h0, h1, h2, h3, f1, f2, f3⟩ := hr.facts
    by_cases hxq : x < q
    · obtain ⟨hl, hv⟩ := HI.out x hx1 hxq
      have i1 : (x : Int) < (S.size : Int) := by omega
      have i0 : (0 : Int) ≤ (x : Int) := by omega
      have i2 : (x : Int) ≤ 100000 := by omega
      rw [bt_lt hl] at hv
      have HV := Lib.hid hv
      clear hv
      go_wp2
      go_quiet ((go_at_call 110; exact isNameByte_q S[x] true HV.out _ _))
      go_wp2
      go_roundw
      case rel => exact ⟨x + 1, by omega, by omega, (hr.drewN _).set1 (by omega), (hbu.drewN _).set _ _⟩
      case measure =>
        rw [((hr.drewN _).set1 (q := x + 1) (v := (x : Int) + 1) (by omega)).atOf, hr.atOf]; omega
    · have e : x = q := by omega
      subst e
      by_cases hl : x < S.size
      · have i1 : (x : Int) < (S.size : Int) := by omega
        have i0 : (0 : Int) ≤ (x : Int) := by omega
        have j1 : (p : Int) ≤ (x : Int) := by omega
        have j0 : (0 : Int) ≤ (p : Int) := by omega
        have i2 : (x : Int) ≤ 100000 := by omega
        have hv := HO.out hl
        rw [bt_lt hl] at hv
        have HV := Lib.hid hv
        clear hv
        go_wp2
        go_quiet ((go_at_call 110; exact isNameByte_q S[x] false HV.out _ _))
        go_wp2
        go_ret
        exact ⟨by rw [Int.ofNat_sub (by omega)]; rfl, hr.drewN _, hbu.drewN _⟩
      · have i1 : ¬ (x : Int) < (S.size : Int) := by omega
        have i0 : (0 : Int) ≤ (x : Int) := by omega
        have j1 : (p : Int) ≤ (x : Int) := by omega
        have j0 : (0 : Int) ≤ (p : Int) := by omega
        have i2 : (x : Int) ≤ 100000 := by omega
        go_wp2
        go_quiet (fail)
        go_wp2
        go_ret
        exact ⟨by rw [Int.ofNat_sub (by omega)]; rfl, hr.drewN _, hbu.drewN _⟩

set_option maxHeartbeats 800000 in
theorem enter_ok {w0 w : World} {g p d n : Nat} {S : ByteArray} (h : Rdr w0 g S w p d n) (hd : d < 31) (hp : p ≤ 100000) :
    Calls Tryz.prog 136 #[.pointer (some ⟨g, 0, none⟩)] w fun e w' => e = .returned (.tuple #[]) ∧ Rdr w0 g S w' (p + 1) (d + 1) n ∧ But g w w' := by
  obtain ⟨h0, h1, h2, h3, f1, f2, f3⟩ := h.facts
  have i1 : (d : Int) < 31 := by omega
  have i0 : (0 : Int) ≤ (d : Int) := by omega
  have i2 : (p : Int) ≤ 100000 := by omega
  have i3 : (0 : Int) ≤ (p : Int) := by omega
  have i4 : ¬ ((d : Int) + 1 = 32) := by omega
  have i5 : (((d : Int) + 1) == 32) = false := beq_eq_false_iff_ne.2 i4
  go_enter Tryz.func136, Tryz.ntmps136
  go_wp2
  go_end0
  exact ⟨rfl, (h.set2 (by omega)).set1 (by omega), ((But.refl _ _).set _ _).set _ _⟩
set_option maxHeartbeats 800000 in
theorem enter_err {w0 w : World} {g p n : Nat} {S : ByteArray} (h : Rdr w0 g S w p 31 n) :
    Calls Tryz.prog 136 #[.pointer (some ⟨g, 0, none⟩)] w fun e w' => e = flt p 4 ∧ But g w w' := by
  obtain ⟨h0, h1, h2, h3, f1, f2, f3⟩ := h.facts
  go_enter Tryz.func136, Tryz.ntmps136
  go_wp2_with fail
  refine (fail_c 4 (h.set2 (q := 32) rfl)).mono ?_
  rintro e w' ⟨rfl, rfl⟩
  exact ⟨rfl, rfl, (But.refl _ _).set _ _⟩
set_option maxHeartbeats 800000 in
theorem node_few {w0 w : World} {g p d n : Nat} {S : ByteArray} (v : Ev) (h : Rdr w0 g S w p d n) (hn : n < 256) :
    Calls Tryz.prog 78 #[.pointer (some ⟨g, 0, none⟩), .agg #[.int .i64 v.k, .bool v.r.s, .slice v.r.A v.r.n v.r.c, .slice v.r.B v.r.m v.r.d, .string v.s, .slice v.K v.n v.c]] w fun e w' => e = .returned (.agg #[.int .i64 v.k, .bool v.r.s, .slice v.r.A v.r.n v.r.c, .slice v.r.B v.r.m v.r.d, .string v.s, .slice v.K v.n v.c]) ∧ Rdr w0 g S w' p d (n + 1) ∧ But g w w' := by
  obtain ⟨h0, h1, h2, h3, f1, f2, f3⟩ := h.facts
  have i1 : (n : Int) < 256 := by omega
  have i0 : (0 : Int) ≤ (n : Int) := by omega
  have hg := h.lt
  have hg2 := h.below.size
  go_enter Tryz.func78, Tryz.ntmps78
  go_wp2
  refine ret6c (fn := Tryz.f78) Tryz.results78 rfl rfl (C6.newAt _ _ _ _ _ _ (by simp)) ?_
  exact ⟨rfl, ((h.set3 (by omega)).alloc _).alloc _, (((But.refl _ _).set _ _).alloc _).alloc _⟩
set_option maxHeartbeats 800000 in
theorem node_many {w0 w : World} {g p d n : Nat} {S : ByteArray} (v : Ev) (h : Rdr w0 g S w p d n) (hn : 256 ≤ n) (hn2 : n ≤ 100000) :
    Calls Tryz.prog 78 #[.pointer (some ⟨g, 0, none⟩), .agg #[.int .i64 v.k, .bool v.r.s, .slice v.r.A v.r.n v.r.c, .slice v.r.B v.r.m v.r.d, .string v.s, .slice v.K v.n v.c]] w fun e w' => e = .returned (.agg #[.int .i64 0, .bool false, .slice none 0 0, .slice none 0 0, .string ⟨#[]⟩, .slice none 0 0]) ∧ Rdr w0 g S w' p d (n + 1) ∧ But g w w' := by
  obtain ⟨h0, h1, h2, h3, f1, f2, f3⟩ := h.facts
  have i1 : (256 : Int) ≤ (n : Int) := by omega
  have i0 : (n : Int) ≤ 100000 := by omega
  have hg := h.lt
  have hg2 := h.below.size
  go_enter Tryz.func78, Tryz.ntmps78
  go_wp2
  refine ret6c (fn := Tryz.f78) Tryz.results78 rfl rfl (C6.newAt _ _ _ _ _ _ (by simp)) ?_
  exact ⟨rfl, ((h.set3 (by omega)).alloc _).alloc _, (((But.refl _ _).set _ _).alloc _).alloc _⟩
/-- One node more, or one of no kind beyond so many. -/
theorem node_c {w0 w : World} {g p d n : Nat} {S : ByteArray} (v x : Ev) (hx : x = if n < 256 then v else Ez) (h : Rdr w0 g S w p d n) (hn2 : n ≤ 100000) :
    Calls Tryz.prog 78 #[.pointer (some ⟨g, 0, none⟩), .agg #[.int .i64 v.k, .bool v.r.s, .slice v.r.A v.r.n v.r.c, .slice v.r.B v.r.m v.r.d, .string v.s, .slice v.K v.n v.c]] w fun e w' => e = .returned (.agg #[.int .i64 x.k, .bool x.r.s, .slice x.r.A x.r.n x.r.c, .slice x.r.B x.r.m x.r.d, .string x.s, .slice x.K x.n x.c]) ∧ Rdr w0 g S w' p d (n + 1) ∧ But g w w' := by
  by_cases hn : n < 256
  · rw [if_pos hn] at hx; subst hx; exact node_few _ h hn
  · rw [if_neg hn] at hx; subst hx; exact node_many v h (by omega) hn2
end Go.Proofs.YtcmkgoikmleanaaGreatDoor

namespace Go.Proofs.YtcmkgoikmleanaaGreatDoor
set_option maxRecDepth 20000
open Go.RowKit

def Rz : Rv := ⟨false, none, 0, 0, none, 0, 0⟩
/-- A number's rows lie in blocks such. -/
def RP (P : Nat → Prop) (v : Rv) : Prop := (0 < v.n → ∀ A, v.A = some A → P A.block) ∧ (0 < v.m → ∀ A, v.B = some A → P A.block)
/-- A struct reads as a tree; its blocks are such. -/
def Tw (w : World) (P : Nat → Prop) : Ex → Ev → Prop
  | .bad, v => v = Ez
  | .num r, v => v = ⟨1, v.r, ⟨#[]⟩, none, 0, 0⟩ ∧ Rt w 0 v.r r ∧ RP P v.r
  | .nm s, v => v = ⟨2, Rz, s, none, 0, 0⟩
  | .bin k a b, v => ∃ (b0 : Nat) (x y : Ev), v = ⟨(k : Int), Rz, ⟨#[]⟩, some ⟨b0, 0, none⟩, 2, 2⟩ ∧ P b0 ∧ b0 < w.heap.size ∧ w.heap[b0]? = some (.cells #[.int .i64 x.k, .bool x.r.s, .slice x.r.A x.r.n x.r.c, .slice x.r.B x.r.m x.r.d, .string x.s, .slice x.K x.n x.c, .int .i64 y.k, .bool y.r.s, .slice y.r.A y.r.n y.r.c, .slice y.r.B y.r.m y.r.d, .string y.s, .slice y.K y.n y.c] 27 (0, 0)) ∧ Tw w P a x ∧ Tw w P b y
  | .neg a, v => ∃ (b0 : Nat) (x : Ev), v = ⟨7, Rz, ⟨#[]⟩, some ⟨b0, 0, none⟩, 1, 1⟩ ∧ P b0 ∧ b0 < w.heap.size ∧ w.heap[b0]? = some (.cells #[.int .i64 x.k, .bool x.r.s, .slice x.r.A x.r.n x.r.c, .slice x.r.B x.r.m x.r.d, .string x.s, .slice x.K x.n x.c] 27 (0, 0)) ∧ Tw w P a x
theorem Row.keepB {w w' : World} {n : Nat} {A : Option Addr} {l : List Nat} {P : Nat → Prop} (h : Row w 0 A n l) (hp : 0 < n → ∀ a, A = some a → P a.block) (hz : w.heap.size ≤ w'.heap.size) (hk : ∀ b, P b → b < w.heap.size → w'.heap[b]? = w.heap[b]?) : Row w' 0 A n l :=
  ⟨h.len, h.l32, fun hn => by
    obtain ⟨b, off, e, h1, h2, hc⟩ := h.mem hn
    have hb : P b := hp hn _ e
    exact ⟨b, off, e, h1, by omega, fun j hj => (World.cell?_of_block (hk b hb h2)).trans (hc j hj)⟩⟩
theorem Rt.keepB {w w' : World} {v : Rv} {r : Rat} {P : Nat → Prop} (h : Rt w 0 v r) (hp : RP P v) (hz : w.heap.size ≤ w'.heap.size) (hk : ∀ b, P b → b < w.heap.size → w'.heap[b]? = w.heap[b]?) : Rt w' 0 v r :=
  ⟨h.1, h.2, h.3, h.4.keepB hp.1 hz hk, h.5, h.6, h.7.keepB hp.2 hz hk⟩
theorem RP.of {w : World} {lo : Nat} {v : Rv} {r : Rat} (h : Rt w lo v r) : RP (fun b => lo ≤ b) v := by
  refine ⟨fun hn A hA => ?_, fun hn A hA => ?_⟩
  · obtain ⟨b, off, e, h1, _⟩ := h.num.mem hn
    rw [hA] at e; injection e with e; subst e; exact h1
  · obtain ⟨b, off, e, h1, _⟩ := h.den.mem hn
    rw [hA] at e; injection e with e; subst e; exact h1
section
variable {w w' : World} {P Q : Nat → Prop} {t : Ex} {v : Ev}
theorem Tw.keep (hz : w.heap.size ≤ w'.heap.size) (hk : ∀ b, P b → b < w.heap.size → w'.heap[b]? = w.heap[b]?) : ∀ (t : Ex) (v : Ev), Tw w P t v → Tw w' P t v := by
  intro t
  induction t with
  | bad => exact fun v h => h
  | num r => exact fun v ⟨h1, h2, h3⟩ => ⟨h1, h2.keepB h3 hz hk, h3⟩
  | nm s => exact fun v h => h
  | bin k a b iha ihb => exact fun v ⟨b0, x, y, h1, h2, h3, h4, h5, h6⟩ => ⟨b0, x, y, h1, h2, by omega, (hk b0 h2 h3).trans h4, iha x h5, ihb y h6⟩
  | neg a iha => exact fun v ⟨b0, x, h1, h2, h3, h4, h5⟩ => ⟨b0, x, h1, h2, by omega, (hk b0 h2 h3).trans h4, iha x h5⟩
theorem Tw.mono (hpq : ∀ b, P b → Q b) : ∀ (t : Ex) (v : Ev), Tw w P t v → Tw w Q t v := by
  intro t
  induction t with
  | bad => exact fun v h => h
  | num r => exact fun v ⟨h1, h2, h3⟩ => ⟨h1, h2, fun hn A hA => hpq _ (h3.1 hn A hA), fun hn A hA => hpq _ (h3.2 hn A hA)⟩
  | nm s => exact fun v h => h
  | bin k a b iha ihb => exact fun v ⟨b0, x, y, h1, h2, h3, h4, h5, h6⟩ => ⟨b0, x, y, h1, hpq _ h2, h3, h4, iha x h5, ihb y h6⟩
  | neg a iha => exact fun v ⟨b0, x, h1, h2, h3, h4, h5⟩ => ⟨b0, x, h1, hpq _ h2, h3, h4, iha x h5⟩
theorem Tw.wide (h : Tw w P t v) (hpq : ∀ b, P b → Q b) : Tw w Q t v := Tw.mono hpq t v h
theorem Tw.below (h : Tw w P t v) (hb : Below w.heap.size w w') : Tw w' P t v := Tw.keep hb.size (fun b _ h2 => hb.block b h2) t v h
theorem Tw.but {g : Nat} (h : Tw w P t v) (hb : But g w w') (hg : ∀ b, P b → b ≠ g) : Tw w' P t v := Tw.keep hb.size (fun b h1 h2 => hb.block b h2 (hg b h1)) t v h
theorem Tw.alloc (h : Tw w P t v) (o : Obj) : Tw (w.alloc o) P t v := h.below ((Below.refl _ _).alloc (Nat.le_refl _) o)
theorem Tw.drew (h : Tw w P t v) : Tw w.drew P t v := h.below ⟨rfl, rfl, rfl, Nat.le_refl _, fun _ _ => rfl⟩
theorem Tw.lt : ∀ (t : Ex) (v : Ev), Tw w P t v → Tw w (fun b => P b ∧ b < w.heap.size) t v := by
  intro t
  induction t with
  | bad => exact fun v h => h
  | num r =>
    refine fun v ⟨h1, h2, h3⟩ => ⟨h1, h2, fun hn A hA => ⟨h3.1 hn A hA, ?_⟩, fun hn A hA => ⟨h3.2 hn A hA, ?_⟩⟩
    · obtain ⟨b, off, e, _, h4, _⟩ := h2.num.mem hn
      rw [hA] at e; injection e with e; subst e; exact h4
    · obtain ⟨b, off, e, _, h4, _⟩ := h2.den.mem hn
      rw [hA] at e; injection e with e; subst e; exact h4
  | nm s => exact fun v h => h
  | bin k a b iha ihb => exact fun v ⟨b0, x, y, h1, h2, h3, h4, h5, h6⟩ => ⟨b0, x, y, h1, ⟨h2, h3⟩, h3, h4, iha x h5, ihb y h6⟩
  | neg a iha => exact fun v ⟨b0, x, h1, h2, h3, h4, h5⟩ => ⟨b0, x, h1, ⟨h2, h3⟩, h3, h4, iha x h5⟩
end
/-- What a part of the reader answers: its tree is new memory. -/
def Post (w0 : World) (g : Nat) (S : ByteArray) (d : Nat) (w : World) : PR → Ending → World → Prop
  | .err a c, e, w' => e = flt a c ∧ But g w w'
  | .ok t _ p n _, e, w' => ∃ v : Ev, e = .returned (.agg #[.int .i64 v.k, .bool v.r.s, .slice v.r.A v.r.n v.r.c, .slice v.r.B v.r.m v.r.d, .string v.s, .slice v.K v.n v.c]) ∧ Tw w' (fun b => w.heap.size ≤ b) t v ∧ Rdr w0 g S w' p d n ∧ But g w w'
/-- .. wherever it begins. -/
def Part (w0 : World) (g : Nat) (S : ByteArray) (f d : Nat) (m : Nat → Nat → PR) : Prop :=
  ∀ (w : World) (p n : Nat), Rdr w0 g S w p d n → p ≤ S.size → n ≤ p → Calls Tryz.prog f #[.pointer (some ⟨g, 0, none⟩)] w (Post w0 g S d w (m p n))
end Go.Proofs.YtcmkgoikmleanaaGreatDoor
