/-
  Expressions, no program: trees, and what a text is as one: from the left, with an error and where it is met.
  Expressions: what a struct of six cells holds, what a reader holds; the leaves of the reader.
  The reader's leaves: letters, signs, blanks, nodes; an error goes up by panic.
  The reader goes on: past blanks, past bytes of one kind, into a bracket; a node is counted.
  The reader goes past bytes of one kind; into a bracket; a node is counted.
  Trees in memory; what a part of the reader answers.
  Expressions, no program: which trees may be; what a text's tree is made of.
  Whether a number, a name, a node may be: the program's own looks.
  Whether a tree may be: the program's own count.
-/
import Derived.WalkKit
import Derived.Test.YtdpbceipiappjaaGreatDoorMRa
import Derived.Test.YtdpbceipiappjaaGreatDoorMDc
import Derived.Test.YtdpbceipiappjaaGreatDoorMRb
namespace Go.Proofs.YtdpbceipiappjaaGreatDoor
set_option maxRecDepth 20000
inductive Ex where
  | bad
  | num (r : Rat)
  | nm (s : ByteArray)
  | bin (k : Nat) (a b : Ex)
  | neg (a : Ex)
def bt (S : ByteArray) (p : Nat) : UInt8 := (S.data.toList[p]?).getD 0
def run (f : UInt8 → Bool) (S : ByteArray) (p : Nat) : Nat := p + ((S.data.toList.drop p).takeWhile f).length
def skp (S : ByteArray) (p : Nat) : Nat := run (· == 32) S p
def isDg (c : UInt8) : Bool := decide (48 ≤ c.toNat) && decide (c.toNat ≤ 57)
def isLw (c : UInt8) : Bool := decide (97 ≤ c.toNat) && decide (c.toNat ≤ 122)
def isNb (c : UInt8) : Bool := isLw c || isDg c || c == 95
def kSum (c : UInt8) : Nat := if c = 43 then 3 else if c = 45 then 4 else 0
def kPro (c : UInt8) : Nat := if c = 42 then 5 else if c = 47 then 6 else 0
inductive PR where
  | err (at_ : Nat) (c : Nat)
  | ok (t u : Ex) (p n : Nat) (lg : Bool)
def mk (n : Nat) (t : Ex) : Ex := if n < 256 then t else .bad
def PR.then (r : PR) (f : Ex → Ex → Nat → Nat → Bool → PR) : PR :=
  match r with
  | .err a c => .err a c
  | .ok t u p n lg => f t u p n lg
variable (tv : ByteArray → Rat)
def rowL (S : ByteArray) (part : Nat → Nat → PR) (kf : UInt8 → Nat) : Nat → Ex → Ex → Nat → Nat → Bool → PR
  | 0, t, u, p, n, lg => .ok t u p n lg
  | f + 1, t, u, p, n, lg =>
    if kf (bt S (skp S p)) = 0 then .ok t u (skp S p) n lg
    else (part (skp S p + 1) n).then fun t2 u2 p2 n2 lg2 =>
      rowL S part kf f (mk n2 (.bin (kf (bt S (skp S p))) t t2)) (.bin (kf (bt S (skp S p))) u u2) p2 (n2 + 1) (lg || lg2)
def rowS (S : ByteArray) (part : Nat → Nat → PR) (kf : UInt8 → Nat) (p n : Nat) : PR :=
  (part p n).then fun t u p n lg => rowL S part kf (S.size + 1) t u p n lg
def numE (S : ByteArray) (q z n : Nat) : PR :=
  if z - q ≤ 400 then .ok (mk n (.num (tv (S.extract q z)))) (.num (tv (S.extract q z))) z (n + 1) false
  else .ok .bad (.num 0) z n true
def numb (S : ByteArray) (q n : Nat) : PR :=
  if bt S (run isDg S q) = 46 then
    if run isDg S (run isDg S q + 1) = run isDg S q + 1 then .err (run isDg S q + 1) 2
    else numE tv S q (run isDg S (run isDg S q + 1)) n
  else numE tv S q (run isDg S q) n
def name (S : ByteArray) (q n : Nat) : PR :=
  if run isNb S q - q > 24 then .err (q + 24) 2
  else .ok (mk n (.nm (S.extract q (run isNb S q)))) (.nm (S.extract q (run isNb S q))) (run isNb S q) (n + 1) false
def fac (S : ByteArray) (dp : Option ((Nat → Nat → PR) × (Nat → Nat → PR))) (p n : Nat) : PR :=
  if bt S (skp S p) = 45 then
    match dp with
    | none => .err (skp S p) 4
    | some (f, _) => (f (skp S p + 1) n).then fun t u p2 n2 lg => .ok (mk n2 (.neg t)) (.neg u) p2 (n2 + 1) lg
  else if bt S (skp S p) = 40 then
    match dp with
    | none => .err (skp S p) 4
    | some (_, s) => (s (skp S p + 1) n).then fun t u p2 n2 lg =>
        if bt S (skp S p2) = 41 then .ok t u (skp S p2 + 1) n2 lg else .err (skp S p2) 2
  else if isDg (bt S (skp S p)) then numb tv S (skp S p) n
  else if isLw (bt S (skp S p)) then name S (skp S p) n
  else .err (skp S p) 2
def sumO (S : ByteArray) (f : Nat → Nat → PR) : Nat → Nat → PR := rowS S (rowS S f kPro) kSum
def lev (S : ByteArray) : Nat → (Nat → Nat → PR) × (Nat → Nat → PR)
  | 0 => (fac tv S none, sumO S (fac tv S none))
  | k + 1 => (fac tv S (some (lev S k)), sumO S (fac tv S (some (lev S k))))
/-- The whole text. -/
def parse (S : ByteArray) : PR :=
  ((lev tv S 31).2 0 0).then fun t u p n lg => if p < S.size then .err p 2 else .ok t u p n lg

theorem mem_takeWhile {α : Type} {f : α → Bool} : ∀ {l : List α} {j : Nat} (_ : j < (l.takeWhile f).length), ∃ h2 : j < l.length, f l[j] = true := by
  intro l
  induction l with
  | nil => intro j h; simp at h
  | cons a l ih =>
    intro j h
    rw [List.takeWhile_cons] at h
    by_cases ha : f a = true
    · rw [if_pos ha] at h
      cases j with
      | zero => exact ⟨by simp, ha⟩
      | succ j => obtain ⟨h2, h3⟩ := ih (j := j) (by simpa using h); exact ⟨by simpa using h2, by simpa using h3⟩
    · rw [if_neg ha] at h; simp at h
theorem end_takeWhile {α : Type} {f : α → Bool} : ∀ {l : List α} (h : (l.takeWhile f).length < l.length), f (l[(l.takeWhile f).length]'(show (l.takeWhile f).length < l.length from h)) = false := by
  intro l
  induction l with
  | nil => intro h; simp at h
  | cons a l ih =>
    intro h
    by_cases ha : f a = true
    · have e : (a :: l).takeWhile f = a :: l.takeWhile f := by rw [List.takeWhile_cons, if_pos ha]
      have := ih (by rw [e] at h; simpa using h)
      simp only [e, List.length_cons, List.getElem_cons_succ]
      exact this
    · have e : (a :: l).takeWhile f = [] := by rw [List.takeWhile_cons, if_neg ha]
      simp only [e, List.length_nil, List.getElem_cons_zero]; exact Bool.eq_false_iff.2 ha
theorem len_takeWhile {α : Type} {f : α → Bool} (l : List α) : (l.takeWhile f).length ≤ l.length := by
  induction l with
  | nil => simp
  | cons a l ih => rw [List.takeWhile_cons]; split <;> simp <;> omega
theorem data_size (S : ByteArray) : S.data.toList.length = S.size := by rw [Array.length_toList]; rfl
theorem bt_lt {S : ByteArray} {p : Nat} (h : p < S.size) : bt S p = S[p] := by
  have h' : p < S.data.toList.length := by rw [data_size]; exact h
  unfold bt
  rw [List.getElem?_eq_getElem h', Option.getD_some]
  simp; rfl
theorem bt_ge {S : ByteArray} {p : Nat} (h : S.size ≤ p) : bt S p = 0 := by
  unfold bt
  rw [List.getElem?_eq_none (by rw [data_size]; exact h)]; rfl
theorem le_run (f : UInt8 → Bool) (S : ByteArray) (p : Nat) : p ≤ run f S p := Nat.le_add_right _ _
theorem run_le (f : UInt8 → Bool) (S : ByteArray) {p : Nat} (h : p ≤ S.size) : run f S p ≤ S.size := by
  have := len_takeWhile (f := f) (S.data.toList.drop p)
  rw [List.length_drop, data_size] at this
  unfold run; omega
theorem run_in (f : UInt8 → Bool) (S : ByteArray) (p j : Nat) (h : p ≤ j) (h2 : j < run f S p) : j < S.size ∧ f (bt S j) = true := by
  have h0 : j - p < ((S.data.toList.drop p).takeWhile f).length := by unfold run at h2; omega
  obtain ⟨h3, h4⟩ := mem_takeWhile h0
  rw [List.length_drop, data_size] at h3
  have hj : j < S.size := by omega
  refine ⟨hj, ?_⟩
  rw [List.getElem_drop] at h4
  have e : p + (j - p) = j := by omega
  simp only [e] at h4
  unfold bt
  rw [List.getElem?_eq_getElem (by rw [data_size]; exact hj), Option.getD_some]
  exact h4
theorem run_out (f : UInt8 → Bool) (S : ByteArray) (p : Nat) (hp : p ≤ S.size) (h : run f S p < S.size) : f (bt S (run f S p)) = false := by
  have h0 : ((S.data.toList.drop p).takeWhile f).length < (S.data.toList.drop p).length := by
    rw [List.length_drop, data_size]; unfold run at h; omega
  have h1 := end_takeWhile h0
  rw [List.getElem_drop] at h1
  unfold bt
  rw [List.getElem?_eq_getElem (by rw [data_size]; exact h), Option.getD_some]
  exact h1
def Ex.nodes : Ex → Nat
  | .bad => 1 | .num _ => 1 | .nm _ => 1 | .bin _ a b => 1 + a.nodes + b.nodes | .neg a => 1 + a.nodes
def Ex.hasBad : Ex → Bool
  | .bad => true | .num _ => false | .nm _ => false | .bin _ a b => a.hasBad || b.hasBad | .neg a => a.hasBad
structure Ok (S : ByteArray) (p n : Nat) (t u : Ex) (p' n' : Nat) (lg : Bool) : Prop where
  lt : p < p'
  le : p' ≤ S.size
  nle : n ≤ n'
  step : n' + p ≤ n + p'
  over : 256 < n' → t = .bad
  long : n' ≤ 256 → lg = true → t.hasBad = true
  same : n' ≤ 256 → lg = false → t = u
  count : lg = false → n' = n + u.nodes
  clean : u.hasBad = false
def Good (S : ByteArray) (p n : Nat) : PR → Prop
  | .err a c => a ≤ S.size ∧ (c = 2 ∨ c = 4)
  | .ok t u p' n' lg => Ok S p n t u p' n' lg
theorem mk_of {n : Nat} {t : Ex} (h : n + 1 ≤ 256) : mk n t = t := by unfold mk; rw [if_pos (by omega)]
theorem mk_over {n : Nat} {t : Ex} (h : 256 < n + 1) : mk n t = .bad := by unfold mk; rw [if_neg (by omega)]
theorem bt_some {S : ByteArray} {p : Nat} (h : bt S p ≠ 0) : p < S.size := by
  rcases Nat.lt_or_ge p S.size with h1 | h1
  · exact h1
  · exact absurd (bt_ge h1) h
theorem good_then {S : ByteArray} {p n p' n' : Nat} {r : PR} {f : Ex → Ex → Nat → Nat → Bool → PR} (h : Good S p n r) (hf : ∀ t u p1 n1 lg, Ok S p n t u p1 n1 lg → Good S p' n' (f t u p1 n1 lg)) : Good S p' n' (r.then f) := by
  cases r with
  | err a c => exact h
  | ok t u p n lg => exact hf _ _ _ _ _ h
theorem skp_le (S : ByteArray) (p : Nat) : p ≤ skp S p := le_run _ _ _
theorem skp_ge (S : ByteArray) {p : Nat} (h : p ≤ S.size) : skp S p ≤ S.size := run_le _ _ h
theorem numE_good {S : ByteArray} {q z n : Nat} (h : q < z) (hz : z ≤ S.size) : Good S q n (numE tv S q z n) := by
  unfold numE
  split
  · refine ⟨h, hz, by omega, by omega, fun h => mk_over h, fun _ h => (Bool.noConfusion h), fun h _ => mk_of h, fun _ => rfl, rfl⟩
  · exact ⟨h, hz, by omega, by omega, fun _ => rfl, fun _ _ => rfl, fun _ h => Bool.noConfusion h, fun h => Bool.noConfusion h, rfl⟩
theorem run_pos {f : UInt8 → Bool} {S : ByteArray} {p : Nat} (h : p < S.size) (hf : f (bt S p) = true) : p < run f S p := by
  rcases Nat.lt_or_ge p (run f S p) with h1 | h1
  · exact h1
  · have e : run f S p = p := Nat.le_antisymm h1 (le_run _ _ _)
    have := run_out f S p (by omega) (by omega)
    rw [e, hf] at this; cases this
theorem dg_pos {c : UInt8} (h : isDg c = true) : c ≠ 0 := by intro e; subst e; revert h; decide
theorem lw_pos {c : UInt8} (h : isLw c = true) : c ≠ 0 := by intro e; subst e; revert h; decide
theorem lw_nb {c : UInt8} (h : isLw c = true) : isNb c = true := by unfold isNb; rw [h]; rfl
theorem numb_good {S : ByteArray} {q n : Nat} (hd : isDg (bt S q) = true) : Good S q n (numb tv S q n) := by
  have h := bt_some (dg_pos hd)
  have h1 := run_pos h hd
  have h2 := run_le isDg S (p := q) (by omega)
  unfold numb
  split
  · rename_i h46
    have h3 : run isDg S q < S.size := bt_some (by rw [h46]; decide)
    have h4 := run_le isDg S (p := run isDg S q + 1) (by omega)
    have h5 := le_run isDg S (run isDg S q + 1)
    split
    · exact ⟨by omega, .inl rfl⟩
    · exact numE_good tv (by omega) h4
  · exact numE_good tv h1 h2
theorem name_good {S : ByteArray} {q n : Nat} (hd : isLw (bt S q) = true) : Good S q n (name S q n) := by
  have h := bt_some (lw_pos hd)
  have h1 := run_pos h (lw_nb hd)
  have h2 := run_le isNb S (p := q) (by omega)
  unfold name
  split
  · exact ⟨by omega, .inl rfl⟩
  · exact ⟨h1, h2, by omega, by omega, fun h => mk_over h, fun _ h => (Bool.noConfusion h), fun h _ => mk_of h, fun _ => rfl, rfl⟩
theorem rowL_good {S : ByteArray} {part : Nat → Nat → PR} {kf : UInt8 → Nat} (hk : kf 0 = 0) (hp : ∀ p n, p ≤ S.size → Good S p n (part p n)) (p0 n0 : Nat) :
    ∀ (f : Nat) (t u : Ex) (p n : Nat) (lg : Bool), Ok S p0 n0 t u p n lg → Good S p0 n0 (rowL S part kf f t u p n lg) := by
  intro f
  induction f with
  | zero => intro t u p n lg h; exact h
  | succ f ih =>
    intro t u p n lg h
    have g1 := skp_le S p
    have g2 := skp_ge S h.le
    unfold rowL
    split
    · exact ⟨Nat.lt_of_lt_of_le h.lt g1, g2, h.nle, by have := h.step; omega, h.over, h.long, h.same, h.count, h.clean⟩
    · rename_i hne
      have hlt : skp S p < S.size := bt_some (fun e => hne (by rw [e, hk]))
      refine good_then (hp (skp S p + 1) n (by omega)) fun t2 u2 p2 n2 lg2 h2 => ih _ _ _ _ _ ?_
      have a1 := h.lt
      have a2 := h2.lt
      have a3 := h.nle
      have a4 := h2.nle
      have a5 := h.step
      have a6 := h2.step
      refine ⟨by omega, h2.le, by omega, by omega, fun h => mk_over h, ?_, ?_, ?_, ?_⟩
      · intro b1 b2
        rw [mk_of b1]
        simp only [Ex.hasBad, Bool.or_eq_true] at b2 ⊢
        rcases b2 with b2 | b2
        · exact .inl (h.long (by omega) b2)
        · exact .inr (h2.long (by omega) b2)
      · intro b1 b2
        simp only [Bool.or_eq_false_iff] at b2
        rw [mk_of b1, h.same (by omega) b2.1, h2.same (by omega) b2.2]
      · intro b2
        simp only [Bool.or_eq_false_iff] at b2
        have c1 := h.count b2.1
        have c2 := h2.count b2.2
        simp only [Ex.nodes]; omega
      · simp only [Ex.hasBad, h.clean, h2.clean, Bool.or_false]
theorem rowS_good {S : ByteArray} {part : Nat → Nat → PR} {kf : UInt8 → Nat} (hk : kf 0 = 0) (hp : ∀ p n, p ≤ S.size → Good S p n (part p n)) (p n : Nat) (h : p ≤ S.size) : Good S p n (rowS S part kf p n) :=
  good_then (hp p n h) fun _ _ _ _ _ h2 => rowL_good hk hp p n _ _ _ _ _ _ h2
theorem fac_good {S : ByteArray} {dp : Option ((Nat → Nat → PR) × (Nat → Nat → PR))} (hd : ∀ x, dp = some x → (∀ p n, p ≤ S.size → Good S p n (x.1 p n)) ∧ (∀ p n, p ≤ S.size → Good S p n (x.2 p n))) (p n : Nat) (h : p ≤ S.size) :
    Good S p n (fac tv S dp p n) := by
  have g1 := skp_le S p
  have g2 := skp_ge S h
  have wide : ∀ r, Good S (skp S p) n r → Good S p n r := by
    intro r hr
    cases r with
    | err a c => exact hr
    | ok t u p' n' lg => exact ⟨Nat.lt_of_le_of_lt g1 hr.lt, hr.le, hr.nle, by have := hr.step; omega, hr.over, hr.long, hr.same, hr.count, hr.clean⟩
  unfold fac
  split
  · rename_i h45
    have hlt : skp S p < S.size := bt_some (by rw [h45]; decide)
    split
    · exact ⟨g2, .inr rfl⟩
    · refine good_then ((hd _ rfl).1 _ n (by omega)) fun t u p2 n2 lg h2 => ?_
      have a1 := h2.lt
      have a2 := h2.step
      have a3 := h2.nle
      refine ⟨by omega, h2.le, by omega, by omega, fun h => mk_over h, ?_, ?_, ?_, ?_⟩
      · intro b1 b2
        rw [mk_of b1]; exact h2.long (by omega) b2
      · intro b1 b2
        rw [mk_of b1, h2.same (by omega) b2]
      · intro b2
        have := h2.count b2
        simp only [Ex.nodes]; omega
      · exact h2.clean
  · split
    · rename_i h40
      have hlt : skp S p < S.size := bt_some (by rw [h40]; decide)
      split
      · exact ⟨g2, .inr rfl⟩
      · refine good_then ((hd _ rfl).2 _ n (by omega)) fun t u p2 n2 lg h2 => ?_
        have a1 := h2.lt
        have a2 := h2.step
        have a3 := h2.nle
        have a4 := skp_le S p2
        have a5 := skp_ge S h2.le
        split
        · rename_i h41
          have hlt : skp S p2 < S.size := bt_some (by rw [h41]; decide)
          exact ⟨by omega, by omega, by omega, by omega, h2.over, h2.long, h2.same, h2.count, h2.clean⟩
        · exact ⟨a5, .inl rfl⟩
    · split
      · rename_i h1; exact wide _ (numb_good tv h1)
      · split
        · rename_i h1; exact wide _ (name_good h1)
        · exact ⟨g2, .inl rfl⟩
theorem sumO_good {S : ByteArray} {f : Nat → Nat → PR} (hp : ∀ p n, p ≤ S.size → Good S p n (f p n)) (p n : Nat) (h : p ≤ S.size) : Good S p n (sumO S f p n) :=
  rowS_good (by decide) (fun p n h => rowS_good (by decide) hp p n h) p n h
theorem lev_good (S : ByteArray) : ∀ k, (∀ p n, p ≤ S.size → Good S p n ((lev tv S k).1 p n)) ∧ (∀ p n, p ≤ S.size → Good S p n ((lev tv S k).2 p n)) := by
  intro k
  induction k with
  | zero =>
    have h : ∀ p n, p ≤ S.size → Good S p n (fac tv S none p n) := fun p n h => fac_good tv (by rintro x ⟨⟩) p n h
    exact ⟨h, fun p n hp => sumO_good h p n hp⟩
  | succ k ih =>
    have h : ∀ p n, p ≤ S.size → Good S p n (fac tv S (some (lev tv S k)) p n) := fun p n h => fac_good tv (by rintro x ⟨⟩; exact ih) p n h
    exact ⟨h, fun p n hp => sumO_good h p n hp⟩
theorem parse_good (S : ByteArray) : Good S 0 0 (parse tv S) := by
  refine good_then ((lev_good tv S 31).2 0 0 (Nat.zero_le _)) fun t u p n lg h => ?_
  split
  · exact ⟨h.le, .inl rfl⟩
  · exact h
end Go.Proofs.YtdpbceipiappjaaGreatDoor

namespace Go.Proofs.YtdpbceipiappjaaGreatDoor
set_option maxRecDepth 20000
open Go.RowKit

/-- What an expression's struct holds. -/
structure Ev where
  k : Int
  r : Rv
  s : ByteArray
  K : Option Addr
  n : Nat
  c : Nat
def Ez : Ev := ⟨0, ⟨false, none, 0, 0, none, 0, 0⟩, ⟨#[]⟩, none, 0, 0⟩

/-- All blocks but one stand as they stood. -/
structure But (g : Nat) (w w' : World) : Prop where
  os : w'.os = w.os
  tape : w'.tape = w.tape
  output : w'.output = w.output
  size : w.heap.size ≤ w'.heap.size
  block : ∀ k, k < w.heap.size → k ≠ g → w'.heap[k]? = w.heap[k]?
theorem But.refl (g : Nat) (w : World) : But g w w := ⟨rfl, rfl, rfl, Nat.le_refl _, fun _ _ _ => rfl⟩
theorem But.trans {g : Nat} {a b c : World} (h : But g a b) (k : But g b c) : But g a c :=
  ⟨k.os.trans h.os, k.tape.trans h.tape, k.output.trans h.output, Nat.le_trans h.size k.size, fun i hi hg => (k.block i (Nat.lt_of_lt_of_le hi h.size) hg).trans (h.block i hi hg)⟩
theorem But.of {g : Nat} {w w' : World} (h : Below w.heap.size w w') : But g w w' := ⟨h.os, h.tape, h.output, h.size, fun k hk _ => h.block k hk⟩
theorem But.alloc {g : Nat} {w w' : World} (h : But g w w') (o : Obj) : But g w (w'.alloc o) := h.trans (.of ((Below.refl _ _).alloc (Nat.le_refl _) o))
theorem But.drew {g : Nat} {w w' : World} (h : But g w w') : But g w w'.drew := h.trans ⟨rfl, rfl, rfl, Nat.le_refl _, fun _ _ _ => rfl⟩
theorem But.drewN {g : Nat} {w w' : World} (h : But g w w') (k : Nat) : But g w (w'.drewN k) := h.trans (.of (below_drewN' _ w' k))
theorem But.set {g : Nat} {w w' : World} (h : But g w w') (j : Nat) (x : Value) : But g w (w'.setCell ⟨g, j, none⟩ x) := by
  refine h.trans ⟨rfl, rfl, rfl, by simp, fun k _ hk => ?_⟩
  show (w'.heap.modify g _)[k]? = _
  rw [Array.getElem?_modify, if_neg (Ne.symm hk)]
theorem But.below {g B : Nat} {w w' : World} (h : But g w w') (hg : B ≤ g) (hB : B ≤ w.heap.size) : Below B w w' :=
  ⟨h.os, h.tape, h.output, h.size, fun k hk => h.block k (Nat.lt_of_lt_of_le hk hB) (by omega)⟩
theorem But.new {g : Nat} {w w' : World} (h : But g w w') (hg : w.heap.size ≤ g) : Below w.heap.size w w' := h.below hg (Nat.le_refl _)

/-- A block that holds a struct of six cells. -/
def C6 (w : World) (b : Nat) (x0 x1 x2 x3 x4 x5 : Value) : Prop := w.heap[b]? = some (.cells #[x0, x1, x2, x3, x4, x5] 27 (0, 0))
section
variable {w w' : World} {b : Nat} {x0 x1 x2 x3 x4 x5 : Value}
theorem C6.lt (h : C6 w b x0 x1 x2 x3 x4 x5) : b < w.heap.size := by
  rcases Nat.lt_or_ge b w.heap.size with h1 | h1
  · exact h1
  · have : w.heap[b]? = none := Array.getElem?_eq_none h1
    rw [C6, this] at h; cases h
theorem C6.below (h : C6 w b x0 x1 x2 x3 x4 x5) (hb : Below w.heap.size w w') : C6 w' b x0 x1 x2 x3 x4 x5 := (hb.block b h.lt).trans h
theorem C6.but {g : Nat} (h : C6 w b x0 x1 x2 x3 x4 x5) (hb : But g w w') (hg : b ≠ g) : C6 w' b x0 x1 x2 x3 x4 x5 := (hb.block b h.lt hg).trans h
theorem C6.new (w : World) (x0 x1 x2 x3 x4 x5 : Value) : C6 (w.alloc (.cells #[x0, x1, x2, x3, x4, x5] 27)) w.heap.size x0 x1 x2 x3 x4 x5 := heap_alloc_new w _
theorem C6.newAt {w : World} {b : Nat} (x0 x1 x2 x3 x4 x5 : Value) (hb : b = w.heap.size) : C6 (w.alloc (.cells #[x0, x1, x2, x3, x4, x5] 27)) b x0 x1 x2 x3 x4 x5 := by subst hb; exact C6.new w _ _ _ _ _ _
theorem C6.alloc (h : C6 w b x0 x1 x2 x3 x4 x5) (o : Obj) : C6 (w.alloc o) b x0 x1 x2 x3 x4 x5 := h.below ((Below.refl _ _).alloc (Nat.le_refl _) o)
theorem C6.drew (h : C6 w b x0 x1 x2 x3 x4 x5) : C6 w.drew b x0 x1 x2 x3 x4 x5 := h
theorem C6.setOther {g : Nat} (h : C6 w b x0 x1 x2 x3 x4 x5) (hg : b ≠ g) (j : Nat) (x : Value) : C6 (w.setCell ⟨g, j, none⟩ x) b x0 x1 x2 x3 x4 x5 := h.but ((But.refl g w).set j x) hg
theorem C6.facts (h : C6 w b x0 x1 x2 x3 x4 x5) :
    w.cell? ⟨b, 0, none⟩ = some x0 ∧ w.cell? ⟨b, 1, none⟩ = some x1 ∧ w.cell? ⟨b, 2, none⟩ = some x2 ∧ w.cell? ⟨b, 3, none⟩ = some x3 ∧ w.cell? ⟨b, 4, none⟩ = some x4 ∧ w.cell? ⟨b, 5, none⟩ = some x5 := by
  have h' : w.heap[b]? = some (.cells #[x0, x1, x2, x3, x4, x5] 27 (0, 0)) := h
  refine ⟨?_, ?_, ?_, ?_, ?_, ?_⟩ <;> simp [World.cell?, h']
theorem C6.thaw (h : C6 w b x0 x1 x2 x3 x4 x5) :
    w.frozen? ⟨b, 0, none⟩ = false ∧ w.frozen? ⟨b, 1, none⟩ = false ∧ w.frozen? ⟨b, 2, none⟩ = false ∧ w.frozen? ⟨b, 3, none⟩ = false ∧ w.frozen? ⟨b, 4, none⟩ = false ∧ w.frozen? ⟨b, 5, none⟩ = false := by
  have h' : w.heap[b]? = some (.cells #[x0, x1, x2, x3, x4, x5] 27 (0, 0)) := h
  refine ⟨?_, ?_, ?_, ?_, ?_, ?_⟩ <;> simp [World.frozen?, h']
end
/-- The struct at a block, written anew. -/
abbrev put6 (w : World) (b : Nat) (x0 x1 x2 x3 x4 x5 : Value) : World :=
  (((((w.setCell ⟨b, 0, none⟩ x0).setCell ⟨b, 1, none⟩ x1).setCell ⟨b, 2, none⟩ x2).setCell ⟨b, 3, none⟩ x3).setCell ⟨b, 4, none⟩ x4).setCell ⟨b, 5, none⟩ x5
theorem C6.set0 {w : World} {b : Nat} {y0 y1 y2 y3 y4 y5 : Value} (h : C6 w b y0 y1 y2 y3 y4 y5) (x : Value) : C6 (w.setCell ⟨b, 0, none⟩ x) b x y1 y2 y3 y4 y5 := by
  have h' : w.heap[b]? = some (.cells #[y0, y1, y2, y3, y4, y5] 27 (0, 0)) := h
  show (w.heap.modify b _)[b]? = _
  rw [Array.getElem?_modify, if_pos rfl, h']; rfl
theorem C6.set1 {w : World} {b : Nat} {y0 y1 y2 y3 y4 y5 : Value} (h : C6 w b y0 y1 y2 y3 y4 y5) (x : Value) : C6 (w.setCell ⟨b, 1, none⟩ x) b y0 x y2 y3 y4 y5 := by
  have h' : w.heap[b]? = some (.cells #[y0, y1, y2, y3, y4, y5] 27 (0, 0)) := h
  show (w.heap.modify b _)[b]? = _
  rw [Array.getElem?_modify, if_pos rfl, h']; rfl
theorem C6.set2 {w : World} {b : Nat} {y0 y1 y2 y3 y4 y5 : Value} (h : C6 w b y0 y1 y2 y3 y4 y5) (x : Value) : C6 (w.setCell ⟨b, 2, none⟩ x) b y0 y1 x y3 y4 y5 := by
  have h' : w.heap[b]? = some (.cells #[y0, y1, y2, y3, y4, y5] 27 (0, 0)) := h
  show (w.heap.modify b _)[b]? = _
  rw [Array.getElem?_modify, if_pos rfl, h']; rfl
theorem C6.set3 {w : World} {b : Nat} {y0 y1 y2 y3 y4 y5 : Value} (h : C6 w b y0 y1 y2 y3 y4 y5) (x : Value) : C6 (w.setCell ⟨b, 3, none⟩ x) b y0 y1 y2 x y4 y5 := by
  have h' : w.heap[b]? = some (.cells #[y0, y1, y2, y3, y4, y5] 27 (0, 0)) := h
  show (w.heap.modify b _)[b]? = _
  rw [Array.getElem?_modify, if_pos rfl, h']; rfl
theorem C6.set4 {w : World} {b : Nat} {y0 y1 y2 y3 y4 y5 : Value} (h : C6 w b y0 y1 y2 y3 y4 y5) (x : Value) : C6 (w.setCell ⟨b, 4, none⟩ x) b y0 y1 y2 y3 x y5 := by
  have h' : w.heap[b]? = some (.cells #[y0, y1, y2, y3, y4, y5] 27 (0, 0)) := h
  show (w.heap.modify b _)[b]? = _
  rw [Array.getElem?_modify, if_pos rfl, h']; rfl
theorem C6.set5 {w : World} {b : Nat} {y0 y1 y2 y3 y4 y5 : Value} (h : C6 w b y0 y1 y2 y3 y4 y5) (x : Value) : C6 (w.setCell ⟨b, 5, none⟩ x) b y0 y1 y2 y3 y4 x := by
  have h' : w.heap[b]? = some (.cells #[y0, y1, y2, y3, y4, y5] 27 (0, 0)) := h
  show (w.heap.modify b _)[b]? = _
  rw [Array.getElem?_modify, if_pos rfl, h']; rfl
theorem C6.put {w : World} {b : Nat} {y0 y1 y2 y3 y4 y5 : Value} (h : C6 w b y0 y1 y2 y3 y4 y5) (x0 x1 x2 x3 x4 x5 : Value) : C6 (put6 w b x0 x1 x2 x3 x4 x5) b x0 x1 x2 x3 x4 x5 := (((((h.set0 x0).set1 x1).set2 x2).set3 x3).set4 x4).set5 x5
theorem put6_but {w : World} {b : Nat} (x0 x1 x2 x3 x4 x5 : Value) : But b w (put6 w b x0 x1 x2 x3 x4 x5) := (((((((But.refl b w).set _ _).set _ _).set _ _).set _ _).set _ _).set _ _)
theorem put6_below {w : World} {b B : Nat} (hB : B ≤ b) (x0 x1 x2 x3 x4 x5 : Value) : Below B w (put6 w b x0 x1 x2 x3 x4 x5) := by
  have h1 : ∀ (w : World) (j : Nat) (x : Value), Below B w (w.setCell ⟨b, j, none⟩ x) := fun w j x => (Below.refl B w).setCell (by simpa using hB) x
  exact (((((h1 _ _ _).trans (h1 _ _ _)).trans (h1 _ _ _)).trans (h1 _ _ _)).trans (h1 _ _ _)).trans (h1 _ _ _)
theorem ret6c {fn : Func} {t : Tmp} {R : Ending → World → Prop} {a : Act} {w : World} {b : Nat} {x0 x1 x2 x3 x4 x5 : Value} (hres : fn.results = #[.cell t 27]) (ht : a.tmps.getD t undef = .pointer (some ⟨b, 0, none⟩)) (hd : a.defers = [])
    (hk : C6 w b x0 x1 x2 x3 x4 x5) (hR : R (.returned (.agg #[x0, x1, x2, x3, x4, x5])) w) : bodyPost Tryz.prog fn R .ret a w := by
  obtain ⟨q0, q1, q2, q3, q4, q5⟩ := hk.facts
  have ht' : (a.tmps[t]?.getD undef) = .pointer (some ⟨b, 0, none⟩) := by simpa using ht
  refine bodyPost_ret (v := .agg #[x0, x1, x2, x3, x4, x5]) ?_ hd hR
  simp [results, hres, go_sem, ht', q0, q1, q2, q3, q4, q5]
theorem ret6 {fn : Func} {t : Tmp} {R : Ending → World → Prop} {a : Act} {w : World} {b : Nat} {y0 y1 y2 y3 y4 y5 x0 x1 x2 x3 x4 x5 : Value} (hres : fn.results = #[.cell t 27]) (ht : a.tmps.getD t undef = .pointer (some ⟨b, 0, none⟩)) (hd : a.defers = [])
    (hk : C6 w b y0 y1 y2 y3 y4 y5) (hR : R (.returned (.agg #[x0, x1, x2, x3, x4, x5])) (put6 w b x0 x1 x2 x3 x4 x5)) : bodyPost Tryz.prog fn R .ret a (put6 w b x0 x1 x2 x3 x4 x5) := ret6c hres ht hd (hk.put x0 x1 x2 x3 x4 x5) hR

section
variable {w0 w w' : World} {g p d n : Nat} {S : ByteArray}
end
/-- How far a reader is. -/
def atOf (g : Nat) (w : World) : Nat := match w.cell? ⟨g, 1, none⟩ with | some (.int _ i) => i.toNat | _ => 0
set_option maxHeartbeats 400000 in
theorem isDigit_c (c : UInt8) (w : World) : Calls Tryz.prog 108 #[.int .u8 c.toNat] w fun e w' => e = .returned (.bool (isDg c)) ∧ w = w' := by
  unfold isDg
  by_cases h1 : 48 ≤ c.toNat
  · have i1 : (48 : Int) ≤ (c.toNat : Int) := by omega
    by_cases h2 : c.toNat ≤ 57
    · have i2 : (c.toNat : Int) ≤ 57 := by omega
      rw [decide_eq_true h1, decide_eq_true h2]
      go_enter Tryz.func108, Tryz.ntmps108
      go_wp2
      go_ret
      exact ⟨rfl, rfl⟩
    · have i2 : ¬ (c.toNat : Int) ≤ 57 := by omega
      rw [decide_eq_false h2, Bool.and_false]
      go_enter Tryz.func108, Tryz.ntmps108
      go_wp2
      go_ret
      exact ⟨rfl, rfl⟩
  · have i1 : ¬ (48 : Int) ≤ (c.toNat : Int) := by omega
    rw [decide_eq_false h1, Bool.false_and]
    go_enter Tryz.func108, Tryz.ntmps108
    go_wp2
    go_ret
    exact ⟨rfl, rfl⟩
end Go.Proofs.YtdpbceipiappjaaGreatDoor

namespace Go.Proofs.YtdpbceipiappjaaGreatDoor
set_option maxRecDepth 20000
open Go.RowKit

theorem u8_ne {c : UInt8} {k : Nat} (hk : k < 256) (h : c ≠ UInt8.ofNat k) : c.toNat ≠ k := by
  intro e
  apply h
  apply UInt8.toNat_inj.1
  rw [e]
  simp [UInt8.toNat_ofNat']; omega
theorem u8_eq {c : UInt8} {k : Nat} (hk : k < 256) (h : c = UInt8.ofNat k) : c.toNat = k := by
  subst h
  simp [UInt8.toNat_ofNat']; omega

set_option maxHeartbeats 400000 in
theorem isLetter_c (c : UInt8) (w : World) : Calls Tryz.prog 93 #[.int .u8 c.toNat] w fun e w' => e = .returned (.bool (isLw c)) ∧ w = w' := by
  unfold isLw
  by_cases h1 : 97 ≤ c.toNat
  · have i1 : (97 : Int) ≤ (c.toNat : Int) := by omega
    by_cases h2 : c.toNat ≤ 122
    · have i2 : (c.toNat : Int) ≤ 122 := by omega
      rw [decide_eq_true h1, decide_eq_true h2]
      go_enter Tryz.func93, Tryz.ntmps93
      go_wp2
      go_ret
      exact ⟨rfl, rfl⟩
    · have i2 : ¬ (c.toNat : Int) ≤ 122 := by omega
      rw [decide_eq_false h2, Bool.and_false]
      go_enter Tryz.func93, Tryz.ntmps93
      go_wp2
      go_ret
      exact ⟨rfl, rfl⟩
  · have i1 : ¬ (97 : Int) ≤ (c.toNat : Int) := by omega
    rw [decide_eq_false h1, Bool.false_and]
    go_enter Tryz.func93, Tryz.ntmps93
    go_wp2
    go_ret
    exact ⟨rfl, rfl⟩

set_option maxHeartbeats 400000 in
theorem isNameByte_c (c : UInt8) (w : World) : Calls Tryz.prog 94 #[.int .u8 c.toNat] w fun e w' => e = .returned (.bool (isNb c)) ∧ w = w' := by
  unfold isNb
  cases h1 : isLw c with
  | true =>
    go_enter Tryz.func94, Tryz.ntmps94
    go_wp2_with fail
    refine (isLetter_c c _).mono ?_
    rintro e w' ⟨rfl, rfl⟩
    rw [h1]
    go_wp2
    go_ret
    exact ⟨rfl, rfl⟩
  | false =>
    cases h2 : isDg c with
    | true =>
      go_enter Tryz.func94, Tryz.ntmps94
      go_wp2_with fail
      refine (isLetter_c c _).mono ?_
      rintro e w' ⟨rfl, rfl⟩
      rw [h1]
      go_wp2_with fail
      refine (isDigit_c c _).mono ?_
      rintro e w' ⟨rfl, rfl⟩
      rw [h2]
      go_wp2
      go_ret
      exact ⟨rfl, rfl⟩
    | false =>
      by_cases h3 : c = 95
      · have I3 : Hid ((c.toNat : Int) = 95) := by have := u8_eq (k := 95) (by omega) h3; exact Lib.hid (by omega)
        have h3' : (c == 95) = true := by rw [h3]; rfl
        rw [h3']
        clear h3' h3
        go_enter Tryz.func94, Tryz.ntmps94
        go_wp2_with fail
        refine (isLetter_c c _).mono ?_
        rintro e w' ⟨rfl, rfl⟩
        rw [h1]
        go_wp2_with fail
        refine (isDigit_c c _).mono ?_
        rintro e w' ⟨rfl, rfl⟩
        rw [h2]
        have i3 := I3.out
        go_wp2
        go_ret
        exact ⟨rfl, rfl⟩
      · have n3 : c.toNat ≠ 95 := u8_ne (k := 95) (by omega) h3
        have i3 : ¬ (c.toNat : Int) = 95 := by omega
        have b3 : ((c.toNat : Int) == 95) = false := beq_eq_false_iff_ne.2 i3
        have h3' : (c == 95) = false := beq_eq_false_iff_ne.2 h3
        rw [h3']
        clear h3' h3
        go_enter Tryz.func94, Tryz.ntmps94
        go_wp2_with fail
        refine (isLetter_c c _).mono ?_
        rintro e w' ⟨rfl, rfl⟩
        rw [h1]
        go_wp2_with fail
        refine (isDigit_c c _).mono ?_
        rintro e w' ⟨rfl, rfl⟩
        rw [h2]
        go_wp2
        go_ret
        exact ⟨rfl, rfl⟩

end Go.Proofs.YtdpbceipiappjaaGreatDoor

namespace Go.Proofs.YtdpbceipiappjaaGreatDoor
set_option maxRecDepth 20000
open Go.RowKit

theorem skp_in {S : ByteArray} {p j : Nat} (h : p ≤ j) (h2 : j < skp S p) : j < S.size ∧ (bt S j).toNat = 32 := by
  obtain ⟨h3, h4⟩ := run_in _ S p j h h2
  refine ⟨h3, ?_⟩
  have : bt S j = 32 := by simpa using h4
  rw [this]; rfl
theorem skp_out {S : ByteArray} {p : Nat} (hp : p ≤ S.size) (h : skp S p < S.size) : (bt S (skp S p)).toNat ≠ 32 := by
  have h1 := run_out (· == 32) S p hp h
  intro e
  have : bt S (skp S p) = 32 := UInt8.toNat_inj.1 e
  have h2 : (bt S (skp S p) == 32) = false := h1
  rw [this] at h2
  exact absurd h2 (by decide)

end Go.Proofs.YtdpbceipiappjaaGreatDoor

namespace Go.Proofs.YtdpbceipiappjaaGreatDoor
set_option maxRecDepth 20000
open Go.RowKit

theorem isDigit_q (c : UInt8) (b : Bool) (h : isDg c = b) (w : World) (n : Nat) : Calls Tryz.prog 108 #[.int .u8 c.toNat] (w.drewN n) fun e w'' => e = .returned (.bool b) ∧ ∃ m, w'' = w.drewN m :=
  (isDigit_c c _).mono fun e w' ⟨he, hw⟩ => ⟨by rw [he, h], n, hw.symm⟩
theorem isNameByte_q (c : UInt8) (b : Bool) (h : isNb c = b) (w : World) (n : Nat) : Calls Tryz.prog 94 #[.int .u8 c.toNat] (w.drewN n) fun e w'' => e = .returned (.bool b) ∧ ∃ m, w'' = w.drewN m :=
  (isNameByte_c c _).mono fun e w' ⟨he, hw⟩ => ⟨by rw [he, h], n, hw.symm⟩

end Go.Proofs.YtdpbceipiappjaaGreatDoor

namespace Go.Proofs.YtdpbceipiappjaaGreatDoor
set_option maxRecDepth 20000
open Go.RowKit

def Rz : Rv := ⟨false, none, 0, 0, none, 0, 0⟩
/-- A number's rows lie in blocks such. -/
def RP (P : Nat → Prop) (v : Rv) : Prop := (0 < v.n → ∀ A, v.A = some A → P A.block) ∧ (0 < v.m → ∀ A, v.B = some A → P A.block)
/-- A struct reads as a tree; its blocks are such. -/
def Tw (w : World) (P : Nat → Prop) : Ex → Ev → Prop
  | .bad, v => v = Ez
  | .num r, v => v = ⟨1, v.r, ⟨#[]⟩, none, 0, 0⟩ ∧ Rt w 0 v.r r ∧ RP P v.r
  | .nm s, v => v = ⟨2, Rz, s, none, 0, 0⟩
  | .bin k a b, v => ∃ (b0 : Nat) (x y : Ev), v = ⟨(k : Int), Rz, ⟨#[]⟩, some ⟨b0, 0, none⟩, 2, 2⟩ ∧ P b0 ∧ b0 < w.heap.size ∧ w.heap[b0]? = some (.cells #[.int .i64 x.k, .bool x.r.s, .slice x.r.A x.r.n x.r.c, .slice x.r.B x.r.m x.r.d, .string x.s, .slice x.K x.n x.c, .int .i64 y.k, .bool y.r.s, .slice y.r.A y.r.n y.r.c, .slice y.r.B y.r.m y.r.d, .string y.s, .slice y.K y.n y.c] 27 (0, 0)) ∧ Tw w P a x ∧ Tw w P b y
  | .neg a, v => ∃ (b0 : Nat) (x : Ev), v = ⟨7, Rz, ⟨#[]⟩, some ⟨b0, 0, none⟩, 1, 1⟩ ∧ P b0 ∧ b0 < w.heap.size ∧ w.heap[b0]? = some (.cells #[.int .i64 x.k, .bool x.r.s, .slice x.r.A x.r.n x.r.c, .slice x.r.B x.r.m x.r.d, .string x.s, .slice x.K x.n x.c] 27 (0, 0)) ∧ Tw w P a x
theorem Row.keepB {w w' : World} {n : Nat} {A : Option Addr} {l : List Nat} {P : Nat → Prop} (h : Row w 0 A n l) (hp : 0 < n → ∀ a, A = some a → P a.block) (hz : w.heap.size ≤ w'.heap.size) (hk : ∀ b, P b → b < w.heap.size → w'.heap[b]? = w.heap[b]?) : Row w' 0 A n l :=
  ⟨h.len, h.l32, fun hn => by
    obtain ⟨b, off, e, h1, h2, hc⟩ := h.mem hn
    have hb : P b := hp hn _ e
    exact ⟨b, off, e, h1, by omega, fun j hj => (World.cell?_of_block (hk b hb h2)).trans (hc j hj)⟩⟩
theorem Rt.keepB {w w' : World} {v : Rv} {r : Rat} {P : Nat → Prop} (h : Rt w 0 v r) (hp : RP P v) (hz : w.heap.size ≤ w'.heap.size) (hk : ∀ b, P b → b < w.heap.size → w'.heap[b]? = w.heap[b]?) : Rt w' 0 v r :=
  ⟨h.1, h.2, h.3, h.4.keepB hp.1 hz hk, h.5, h.6, h.7.keepB hp.2 hz hk⟩
theorem RP.of {w : World} {lo : Nat} {v : Rv} {r : Rat} (h : Rt w lo v r) : RP (fun b => lo ≤ b) v := by
  refine ⟨fun hn A hA => ?_, fun hn A hA => ?_⟩
  · obtain ⟨b, off, e, h1, _⟩ := h.num.mem hn
    rw [hA] at e; injection e with e; subst e; exact h1
  · obtain ⟨b, off, e, h1, _⟩ := h.den.mem hn
    rw [hA] at e; injection e with e; subst e; exact h1
section
variable {w w' : World} {P Q : Nat → Prop} {t : Ex} {v : Ev}
theorem Tw.keep (hz : w.heap.size ≤ w'.heap.size) (hk : ∀ b, P b → b < w.heap.size → w'.heap[b]? = w.heap[b]?) : ∀ (t : Ex) (v : Ev), Tw w P t v → Tw w' P t v := by
  intro t
  induction t with
  | bad => exact fun v h => h
  | num r => exact fun v ⟨h1, h2, h3⟩ => ⟨h1, h2.keepB h3 hz hk, h3⟩
  | nm s => exact fun v h => h
  | bin k a b iha ihb => exact fun v ⟨b0, x, y, h1, h2, h3, h4, h5, h6⟩ => ⟨b0, x, y, h1, h2, by omega, (hk b0 h2 h3).trans h4, iha x h5, ihb y h6⟩
  | neg a iha => exact fun v ⟨b0, x, h1, h2, h3, h4, h5⟩ => ⟨b0, x, h1, h2, by omega, (hk b0 h2 h3).trans h4, iha x h5⟩
theorem Tw.mono (hpq : ∀ b, P b → Q b) : ∀ (t : Ex) (v : Ev), Tw w P t v → Tw w Q t v := by
  intro t
  induction t with
  | bad => exact fun v h => h
  | num r => exact fun v ⟨h1, h2, h3⟩ => ⟨h1, h2, fun hn A hA => hpq _ (h3.1 hn A hA), fun hn A hA => hpq _ (h3.2 hn A hA)⟩
  | nm s => exact fun v h => h
  | bin k a b iha ihb => exact fun v ⟨b0, x, y, h1, h2, h3, h4, h5, h6⟩ => ⟨b0, x, y, h1, hpq _ h2, h3, h4, iha x h5, ihb y h6⟩
  | neg a iha => exact fun v ⟨b0, x, h1, h2, h3, h4, h5⟩ => ⟨b0, x, h1, hpq _ h2, h3, h4, iha x h5⟩
theorem Tw.wide (h : Tw w P t v) (hpq : ∀ b, P b → Q b) : Tw w Q t v := Tw.mono hpq t v h
theorem Tw.below (h : Tw w P t v) (hb : Below w.heap.size w w') : Tw w' P t v := Tw.keep hb.size (fun b _ h2 => hb.block b h2) t v h
theorem Tw.but {g : Nat} (h : Tw w P t v) (hb : But g w w') (hg : ∀ b, P b → b ≠ g) : Tw w' P t v := Tw.keep hb.size (fun b h1 h2 => hb.block b h2 (hg b h1)) t v h
theorem Tw.alloc (h : Tw w P t v) (o : Obj) : Tw (w.alloc o) P t v := h.below ((Below.refl _ _).alloc (Nat.le_refl _) o)
theorem Tw.drew (h : Tw w P t v) : Tw w.drew P t v := h.below ⟨rfl, rfl, rfl, Nat.le_refl _, fun _ _ => rfl⟩
theorem Tw.lt : ∀ (t : Ex) (v : Ev), Tw w P t v → Tw w (fun b => P b ∧ b < w.heap.size) t v := by
  intro t
  induction t with
  | bad => exact fun v h => h
  | num r =>
    refine fun v ⟨h1, h2, h3⟩ => ⟨h1, h2, fun hn A hA => ⟨h3.1 hn A hA, ?_⟩, fun hn A hA => ⟨h3.2 hn A hA, ?_⟩⟩
    · obtain ⟨b, off, e, _, h4, _⟩ := h2.num.mem hn
      rw [hA] at e; injection e with e; subst e; exact h4
    · obtain ⟨b, off, e, _, h4, _⟩ := h2.den.mem hn
      rw [hA] at e; injection e with e; subst e; exact h4
  | nm s => exact fun v h => h
  | bin k a b iha ihb => exact fun v ⟨b0, x, y, h1, h2, h3, h4, h5, h6⟩ => ⟨b0, x, y, h1, ⟨h2, h3⟩, h3, h4, iha x h5, ihb y h6⟩
  | neg a iha => exact fun v ⟨b0, x, h1, h2, h3, h4, h5⟩ => ⟨b0, x, h1, ⟨h2, h3⟩, h3, h4, iha x h5⟩
end
end Go.Proofs.YtdpbceipiappjaaGreatDoor

namespace Go.Proofs.YtdpbceipiappjaaGreatDoor
set_option maxRecDepth 20000
open Go.RowKit

def Ex.deep : Ex → Nat
  | .bad => 1 | .num _ => 1 | .nm _ => 1 | .bin _ a b => max a.deep b.deep + 1 | .neg a => a.deep + 1
/-- The signs of two are such. -/
def Ex.wf : Ex → Prop
  | .bad => True | .num _ => True | .nm _ => True | .bin k a b => (k = 3 ∨ k = 4 ∨ k = 5 ∨ k = 6) ∧ a.wf ∧ b.wf | .neg a => a.wf
/-- A number that a node may have. -/
def NumOk (r : Rat) : Prop := (lim r.num.natAbs).length ≤ 16 ∧ (lim r.den).length ≤ 16 ∧ ¬ r.num < 0 ∧ ∃ F, ExW F true r
/-- A name. -/
def isName (s : ByteArray) : Bool := decide (0 < s.size) && decide (s.size ≤ 24) && isLw (bt s 0) && s.data.toList.all isNb
def Ex.fine : Ex → Prop
  | .bad => False | .num r => NumOk r | .nm s => isName s = true | .bin _ a b => a.fine ∧ b.fine | .neg a => a.fine
/-- It may be. -/
def Ex.may (t : Ex) (d l : Nat) : Prop := t.fine ∧ t.deep ≤ d ∧ t.nodes ≤ l
theorem Ex.deep_pos (t : Ex) : 0 < t.deep := by cases t <;> simp [Ex.deep]
theorem Ex.nodes_pos (t : Ex) : 0 < t.nodes := by cases t <;> simp only [Ex.nodes] <;> omega
theorem fine_bad {t : Ex} (h : t.hasBad = true) : ¬ t.fine := by
  induction t with
  | bad => exact fun h => h
  | num r => cases h
  | nm s => cases h
  | bin k a b iha ihb =>
    simp only [Ex.hasBad, Bool.or_eq_true] at h
    rintro ⟨h1, h2⟩
    rcases h with h | h
    · exact iha h h1
    · exact ihb h h2
  | neg a iha => exact fun h1 => iha h h1
def PR.Wf : PR → Prop
  | .err _ _ => True
  | .ok t u _ _ _ => t.wf ∧ u.wf
theorem wf_mk {n : Nat} {t : Ex} (h : t.wf) : (mk n t).wf := by unfold mk; split; exact h; trivial
theorem kSum_k (c : UInt8) : kSum c = 0 ∨ (kSum c = 3 ∨ kSum c = 4 ∨ kSum c = 5 ∨ kSum c = 6) := by unfold kSum; split; simp; split <;> simp
theorem kPro_k (c : UInt8) : kPro c = 0 ∨ (kPro c = 3 ∨ kPro c = 4 ∨ kPro c = 5 ∨ kPro c = 6) := by unfold kPro; split; simp; split <;> simp
theorem exW_true {F G : ByteArray} {r : Rat} (h : ExW F true r) (h' : ExW G false r) : False := by
  rcases h with ⟨_, K, hK, hE, _⟩ | ⟨h, _⟩
  · rcases h' with ⟨h', _⟩ | ⟨_, _, hn⟩
    · cases h'
    · exact hn K hK hE.1
  · cases h
end Go.Proofs.YtdpbceipiappjaaGreatDoor

namespace Go.Proofs.YtdpbceipiappjaaGreatDoor
set_option maxRecDepth 20000
open Go.RowKit

theorem isN_rt {w : World} {lo : Nat} {v : Rv} {r : Rat} (h : Rt w lo v r) : IsN v.s (lim r.num.natAbs) (lim r.den) := by
  refine ⟨lim_tr _, lim_tr _, ?_, ?_, ?_⟩
  · rw [val_lim]; exact r.den_nz
  · intro hs
    rw [val_lim]
    rw [h.sign] at hs
    have := of_decide_eq_true hs
    omega
  · rw [val_lim, val_lim]; exact r.reduced

set_option maxHeartbeats 1600000 in
theorem isNum_c (v : Rv) (r : Rat) (b : Bool) (lo : Nat) (w : World) (h : Rt w lo v r) (ht : Tb w) (hbb : b = true ↔ NumOk r) :
    Calls Tryz.prog 78 #[.agg #[.bool v.s, .slice v.A v.n v.c, .slice v.B v.m v.d]] w fun e w' => e = .returned (.bool b) ∧ Below w.heap.size w w' := by
  have hk := C3.new w (.bool v.s) (.slice v.A v.n v.c) (.slice v.B v.m v.d)
  have hb0 := (Below.refl w.heap.size w).alloc (Nat.le_refl _) (.cells #[.bool v.s, .slice v.A v.n v.c, .slice v.B v.m v.d] 24)
  have HN := Lib.hid h.numLen
  have HM := Lib.hid h.denLen
  have bf : ¬ NumOk r → b = false := fun h => by cases b with | false => rfl | true => exact absurd (hbb.1 rfl) h
  obtain ⟨q0, q1, q2, q3, q4, q5⟩ := hk.facts
  by_cases h1 : v.n ≤ 16
  · have i1 : ¬ (16 : Int) < (v.n : Int) := by omega
    by_cases h2 : v.m ≤ 16
    · have i2 : ¬ (16 : Int) < (v.m : Int) := by omega
      rcases Bool.eq_false_or_eq_true v.s with hs | hs
      · have hno : ¬ NumOk r := by
          rintro ⟨_, _, h3, _⟩
          rw [h.sign] at hs
          exact h3 (of_decide_eq_true hs)
        have HBF := Lib.hid (bf hno)
        clear hbb bf hno
        rw [hs] at q0 hk ⊢
        go_enter Tryz.func78, Tryz.ntmps78
        go_wp2
        go_ret
        exact ⟨by rw [HBF.out]; rfl, by rw [hs] at hb0; exact hb0⟩
      · obtain ⟨G, b', hE⟩ := exW_ex r
        have hn := HN.out
        have hm := HM.out
        have sz : Sz r 16 := ⟨Bd.ofL (by rw [← hn]; exact h1), Bd.ofL (by rw [← hm]; exact h2)⟩
        have hw : Rw w v r 400 := (h.rw sz).more (by omega)
        have hiff : b' = b := by
          rw [Bool.eq_iff_iff, hbb]
          constructor
          · intro hb
            subst hb
            refine ⟨by omega, by omega, ?_, G, hE⟩
            rw [h.sign] at hs
            exact of_decide_eq_false hs
          · rintro ⟨_, _, _, G', hE'⟩
            cases b' with
            | true => rfl
            | false => exact (exW_true hE' hE).elim
        subst hiff
        have HE := Lib.hid hE
        have hN := Lib.hid (isN_rt h)
        replace h := h.below hb0
        replace hw := hw.below hb0
        replace ht := ht.below hb0
        clear hE sz hbb bf hn hm
        clear q0 q1 q2 q3 q4 q5 i1 i2
        obtain ⟨vs, vA, vn, vc, vB, vm, vd⟩ := v
        dsimp only at *
        subst hs
        have i1 : ¬ (16 : Int) < (vn : Int) := by omega
        have i2 : ¬ (16 : Int) < (vm : Int) := by omega
        obtain ⟨q0, q1, q2, q3, q4, q5⟩ := hk.facts
        generalize hws : w.alloc (.cells #[.bool false, .slice vA vn vc, .slice vB vm vd] 24) = w1 at *
        go_enter Tryz.func78, Tryz.ntmps78
        go_wp2_with fail
        clear hws
        refine (Is_c ⟨false, vA, vn, vc, vB, vm, vd⟩ (lim r.num.natAbs) (lim r.den) true _ h.numCap h.denCap (by show vn ≤ 2000; omega) (by show vm ≤ 2000; omega) (h.num.lower (Nat.zero_le _)) (h.den.lower (Nat.zero_le _)) ⟨fun _ => hN.out, fun _ => rfl⟩).mono ?_
        rintro e w2 ⟨rfl, hb⟩
        replace hk := hk.below hb
        replace hw := hw.below hb
        replace ht := ht.below hb
        replace hb0 := hb0.trans (hb.mono hb0.size)
        clear hb h q0 q1 q2 q3 q4 q5
        obtain ⟨q0, q1, q2, q3, q4, q5⟩ := hk.facts
        go_wp2_with fail
        refine (dExact_v G b' ⟨false, vA, vn, vc, vB, vm, vd⟩ r _ HE.out hw ht).mono ?_
        rintro e w3 ⟨rfl, hb⟩
        replace hb0 := hb0.trans (hb.mono hb0.size)
        clear hb hk hw q0 q1 q2 q3 q4 q5
        go_wp2
        go_ret
        exact ⟨rfl, hb0⟩
    · have i2 : (16 : Int) < (v.m : Int) := by omega
      have hno : ¬ NumOk r := by rintro ⟨_, h3, _⟩; have := HM.out; omega
      have HBF := Lib.hid (bf hno)
      clear hbb bf hno
      go_enter Tryz.func78, Tryz.ntmps78
      go_wp2
      go_ret
      exact ⟨by rw [HBF.out]; rfl, hb0⟩
  · have i1 : (16 : Int) < (v.n : Int) := by omega
    have hno : ¬ NumOk r := by rintro ⟨h3, _⟩; have := HN.out; omega
    have HBF := Lib.hid (bf hno)
    clear hbb bf hno
    go_enter Tryz.func78, Tryz.ntmps78
    go_wp2
    go_ret
    exact ⟨by rw [HBF.out]; rfl, hb0⟩
set_option maxHeartbeats 1600000 in
theorem isNoNum_c (w : World) :
    Calls Tryz.prog 79 #[.agg #[.bool false, .slice none 0 0, .slice none 0 0]] w fun e w' => e = .returned (.bool true) ∧ Below w.heap.size w w' := by
  have hb0 := (Below.refl w.heap.size w).alloc (Nat.le_refl _) (.cells #[.bool false, .slice none 0 0, .slice none 0 0] 24)
  go_enter Tryz.func79, Tryz.ntmps79
  go_wp2
  go_ret
  exact ⟨rfl, hb0⟩
theorem isName_iff {s : ByteArray} : isName s = true ↔ 0 < s.size ∧ s.size ≤ 24 ∧ isLw (bt s 0) = true ∧ ∀ j, j < s.size → isNb (bt s j) = true := by
  unfold isName
  simp only [Bool.and_eq_true, decide_eq_true_eq, List.all_eq_true]
  constructor
  · rintro ⟨⟨⟨h1, h2⟩, h3⟩, h4⟩
    refine ⟨h1, h2, h3, fun j hj => h4 _ ?_⟩
    unfold bt
    rw [List.getElem?_eq_getElem (by rw [data_size]; exact hj), Option.getD_some]
    exact List.getElem_mem _
  · rintro ⟨h1, h2, h3, h4⟩
    refine ⟨⟨⟨h1, h2⟩, h3⟩, fun c hc => ?_⟩
    obtain ⟨j, hj, rfl⟩ := List.getElem_of_mem hc
    have := h4 j (by rw [← data_size]; exact hj)
    unfold bt at this
    rw [List.getElem?_eq_getElem hj, Option.getD_some] at this
    exact this
set_option maxHeartbeats 1600000 in
theorem Name_c (s : ByteArray) (w : World) : Calls Tryz.prog 80 #[.string s] w fun e w' => e = .returned (.bool (isName s)) ∧ w = w' := by
  have hiff := isName_iff (s := s)
  have si : ∀ b, (isName s = true ↔ b = true) → isName s = b := fun b h => Bool.eq_iff_iff.2 h
  by_cases h0 : s.size = 0
  · have : s = ⟨#[]⟩ := str_nil h0
    subst this
    go_enter Tryz.func80, Tryz.ntmps80
    go_wp2
    go_ret
    exact ⟨by rw [si false ⟨fun h => by have := (hiff.1 h).1; omega, fun h => Bool.noConfusion h⟩]; rfl, rfl⟩
  · have hne := str_ne (S := s) (by omega)
    by_cases h1 : s.size ≤ 24
    · have i1 : ¬ (24 : Int) < (s.size : Int) := by omega
      have i0 : (0 : Int) < (s.size : Int) := by omega
      have hl : 0 < s.size := by omega
      have hi := Lib.hid hiff
      have si2 := Lib.hid si
      clear hiff si
      cases hlw : isLw (bt s 0) with
      | false =>
        have HL : Hid (isLw s[0] = false) := by rw [bt_lt hl] at hlw; exact hlw
        have HF : Hid (isName s = false) := si2.out false ⟨fun h => by have := (hi.out.1 h).2.2.1; rw [hlw] at this; exact this, fun h => Bool.noConfusion h⟩
        clear hlw
        go_enter Tryz.func80, Tryz.ntmps80
        go_wp2_with fail
        refine (isLetter_c s[0] _).mono ?_
        rintro e w' ⟨rfl, rfl⟩
        rw [HL.out]
        go_wp2
        go_ret
        exact ⟨by rw [HF.out]; rfl, rfl⟩
      | true =>
        have HL : Hid (isLw s[0] = true) := by rw [bt_lt hl] at hlw; exact hlw
        have HLW := Lib.hid hlw
        clear hlw
        go_enter Tryz.func80, Tryz.ntmps80
        go_wp2_with fail
        refine (isLetter_c s[0] _).mono ?_
        rintro e w' ⟨rfl, rfl⟩
        rw [HL.out]
        go_wp2
        go_loop [19] (fun v => ∃ i : Nat, i ≤ s.size ∧ Hid (∀ j, j < i → isNb (bt s j) = true) ∧ v = .int .i64 i) (fun v => s.size - (intOf v).toNat)
        case atStart => exact ⟨0, Nat.zero_le _, fun j h => absurd h (by omega), rfl⟩
        case round =>
          obtain ⟨i, hi1, HJ, rfl⟩ := hrel
          have j0 : (0 : Int) ≤ (i : Int) := by omega
          by_cases hlt : i < s.size
          · have j1 : (i : Int) < (s.size : Int) := by omega
            have j2 : (i : Int) ≤ 24 := by omega
            cases hnb : isNb (bt s i) with
            | false =>
              have HB : Hid (isNb s[i] = false) := by rw [bt_lt hlt] at hnb; exact hnb
              have HF : Hid (isName s = false) := si2.out false ⟨fun h => by have := (hi.out.1 h).2.2.2 i hlt; rw [hnb] at this; exact this, fun h => Bool.noConfusion h⟩
              clear hnb
              go_wp2_with fail
              refine (isNameByte_c s[i] _).mono ?_
              rintro e w' ⟨rfl, rfl⟩
              rw [HB.out]
              go_wp2
              go_ret
              exact ⟨by rw [HF.out]; rfl, rfl⟩
            | true =>
              have HB : Hid (isNb s[i] = true) := by rw [bt_lt hlt] at hnb; exact hnb
              have HJ2 : Hid (∀ j, j < i + 1 → isNb (bt s j) = true) := fun j hj => by
                by_cases h : j = i
                · subst h; exact hnb
                · exact HJ.out j (by omega)
              clear hnb
              go_wp2_with fail
              refine (isNameByte_c s[i] _).mono ?_
              rintro e w' ⟨rfl, rfl⟩
              rw [HB.out]
              go_wp2
              go_round
              case rel => exact ⟨i + 1, by omega, HJ2, by go_num⟩
              case measure => simp [intOf]; omega
          · have e : i = s.size := by omega
            have j1 : ¬ (i : Int) < (s.size : Int) := by omega
            have HF : Hid (isName s = true) := hi.out.2 ⟨hl, h1, HLW.out, fun j hj => HJ.out j (by omega)⟩
            go_wp2
            go_ret
            exact ⟨by rw [HF.out]; rfl, rfl⟩
    · have i1 : (24 : Int) < (s.size : Int) := by omega
      go_enter Tryz.func80, Tryz.ntmps80
      go_wp2
      go_ret
      exact ⟨by rw [si false ⟨fun h => by have := (hiff.1 h).2.1; omega, fun h => Bool.noConfusion h⟩]; rfl, rfl⟩
set_option maxHeartbeats 1600000 in
theorem isNode_bad  (w : World) :
    Calls Tryz.prog 64 #[.agg #[.int .i64 0, .bool false, .slice none 0 0, .slice none 0 0, .string ⟨#[]⟩, .slice none 0 0]] w fun e w' => e = .returned (.bool false) ∧ Below w.heap.size w w' := by
  have hk := C6.new w (.int .i64 0) (.bool false) (.slice none 0 0) (.slice none 0 0) (.string ⟨#[]⟩) (.slice none 0 0)
  have hb0 := (Below.refl w.heap.size w).alloc (Nat.le_refl _) (.cells #[.int .i64 0, .bool false, .slice none 0 0, .slice none 0 0, .string ⟨#[]⟩, .slice none 0 0] 27)
  generalize hW : w.alloc (.cells #[.int .i64 0, .bool false, .slice none 0 0, .slice none 0 0, .string ⟨#[]⟩, .slice none 0 0] 27) = w1 at *
  obtain ⟨q0, q1, q2, q3, q4, q5⟩ := hk.facts
  go_enter Tryz.func64, Tryz.ntmps64
  go_wp2
  go_ret
  exact ⟨rfl, hb0⟩
set_option maxHeartbeats 1600000 in
theorem isNode_neg (A : Option Addr) (w : World) :
    Calls Tryz.prog 64 #[.agg #[.int .i64 7, .bool false, .slice none 0 0, .slice none 0 0, .string ⟨#[]⟩, .slice A 1 1]] w fun e w' => e = .returned (.bool true) ∧ Below w.heap.size w w' := by
  have hk := C6.new w (.int .i64 7) (.bool false) (.slice none 0 0) (.slice none 0 0) (.string ⟨#[]⟩) (.slice A 1 1)
  have hb0 := (Below.refl w.heap.size w).alloc (Nat.le_refl _) (.cells #[.int .i64 7, .bool false, .slice none 0 0, .slice none 0 0, .string ⟨#[]⟩, .slice A 1 1] 27)
  generalize hW : w.alloc (.cells #[.int .i64 7, .bool false, .slice none 0 0, .slice none 0 0, .string ⟨#[]⟩, .slice A 1 1] 27) = w1 at *
  obtain ⟨q0, q1, q2, q3, q4, q5⟩ := hk.facts
  go_enter Tryz.func64, Tryz.ntmps64
  go_wp2_with fail
  first | rw [hW] | skip
  refine (isNoNum_c _).mono ?_
  rintro e w2 ⟨rfl, hb⟩
  replace hk := hk.below hb
  replace hb0 := hb0.trans (hb.mono hb0.size)
  clear hb q0 q1 q2 q3 q4 q5
  obtain ⟨q0, q1, q2, q3, q4, q5⟩ := hk.facts
  go_wp2
  go_ret
  exact ⟨rfl, hb0⟩
set_option maxHeartbeats 1600000 in
theorem isNode_bin3 (A : Option Addr) (w : World) :
    Calls Tryz.prog 64 #[.agg #[.int .i64 3, .bool false, .slice none 0 0, .slice none 0 0, .string ⟨#[]⟩, .slice A 2 2]] w fun e w' => e = .returned (.bool true) ∧ Below w.heap.size w w' := by
  have hk := C6.new w (.int .i64 3) (.bool false) (.slice none 0 0) (.slice none 0 0) (.string ⟨#[]⟩) (.slice A 2 2)
  have hb0 := (Below.refl w.heap.size w).alloc (Nat.le_refl _) (.cells #[.int .i64 3, .bool false, .slice none 0 0, .slice none 0 0, .string ⟨#[]⟩, .slice A 2 2] 27)
  generalize hW : w.alloc (.cells #[.int .i64 3, .bool false, .slice none 0 0, .slice none 0 0, .string ⟨#[]⟩, .slice A 2 2] 27) = w1 at *
  obtain ⟨q0, q1, q2, q3, q4, q5⟩ := hk.facts
  go_enter Tryz.func64, Tryz.ntmps64
  go_wp2_with fail
  first | rw [hW] | skip
  refine (isNoNum_c _).mono ?_
  rintro e w2 ⟨rfl, hb⟩
  replace hk := hk.below hb
  replace hb0 := hb0.trans (hb.mono hb0.size)
  clear hb q0 q1 q2 q3 q4 q5
  obtain ⟨q0, q1, q2, q3, q4, q5⟩ := hk.facts
  go_wp2
  go_ret
  exact ⟨rfl, hb0⟩
set_option maxHeartbeats 1600000 in
theorem isNode_bin4 (A : Option Addr) (w : World) :
    Calls Tryz.prog 64 #[.agg #[.int .i64 4, .bool false, .slice none 0 0, .slice none 0 0, .string ⟨#[]⟩, .slice A 2 2]] w fun e w' => e = .returned (.bool true) ∧ Below w.heap.size w w' := by
  have hk := C6.new w (.int .i64 4) (.bool false) (.slice none 0 0) (.slice none 0 0) (.string ⟨#[]⟩) (.slice A 2 2)
  have hb0 := (Below.refl w.heap.size w).alloc (Nat.le_refl _) (.cells #[.int .i64 4, .bool false, .slice none 0 0, .slice none 0 0, .string ⟨#[]⟩, .slice A 2 2] 27)
  generalize hW : w.alloc (.cells #[.int .i64 4, .bool false, .slice none 0 0, .slice none 0 0, .string ⟨#[]⟩, .slice A 2 2] 27) = w1 at *
  obtain ⟨q0, q1, q2, q3, q4, q5⟩ := hk.facts
  go_enter Tryz.func64, Tryz.ntmps64
  go_wp2_with fail
  first | rw [hW] | skip
  refine (isNoNum_c _).mono ?_
  rintro e w2 ⟨rfl, hb⟩
  replace hk := hk.below hb
  replace hb0 := hb0.trans (hb.mono hb0.size)
  clear hb q0 q1 q2 q3 q4 q5
  obtain ⟨q0, q1, q2, q3, q4, q5⟩ := hk.facts
  go_wp2
  go_ret
  exact ⟨rfl, hb0⟩
set_option maxHeartbeats 1600000 in
theorem isNode_bin5 (A : Option Addr) (w : World) :
    Calls Tryz.prog 64 #[.agg #[.int .i64 5, .bool false, .slice none 0 0, .slice none 0 0, .string ⟨#[]⟩, .slice A 2 2]] w fun e w' => e = .returned (.bool true) ∧ Below w.heap.size w w' := by
  have hk := C6.new w (.int .i64 5) (.bool false) (.slice none 0 0) (.slice none 0 0) (.string ⟨#[]⟩) (.slice A 2 2)
  have hb0 := (Below.refl w.heap.size w).alloc (Nat.le_refl _) (.cells #[.int .i64 5, .bool false, .slice none 0 0, .slice none 0 0, .string ⟨#[]⟩, .slice A 2 2] 27)
  generalize hW : w.alloc (.cells #[.int .i64 5, .bool false, .slice none 0 0, .slice none 0 0, .string ⟨#[]⟩, .slice A 2 2] 27) = w1 at *
  obtain ⟨q0, q1, q2, q3, q4, q5⟩ := hk.facts
  go_enter Tryz.func64, Tryz.ntmps64
  go_wp2_with fail
  first | rw [hW] | skip
  refine (isNoNum_c _).mono ?_
  rintro e w2 ⟨rfl, hb⟩
  replace hk := hk.below hb
  replace hb0 := hb0.trans (hb.mono hb0.size)
  clear hb q0 q1 q2 q3 q4 q5
  obtain ⟨q0, q1, q2, q3, q4, q5⟩ := hk.facts
  go_wp2
  go_ret
  exact ⟨rfl, hb0⟩
set_option maxHeartbeats 1600000 in
theorem isNode_bin6 (A : Option Addr) (w : World) :
    Calls Tryz.prog 64 #[.agg #[.int .i64 6, .bool false, .slice none 0 0, .slice none 0 0, .string ⟨#[]⟩, .slice A 2 2]] w fun e w' => e = .returned (.bool true) ∧ Below w.heap.size w w' := by
  have hk := C6.new w (.int .i64 6) (.bool false) (.slice none 0 0) (.slice none 0 0) (.string ⟨#[]⟩) (.slice A 2 2)
  have hb0 := (Below.refl w.heap.size w).alloc (Nat.le_refl _) (.cells #[.int .i64 6, .bool false, .slice none 0 0, .slice none 0 0, .string ⟨#[]⟩, .slice A 2 2] 27)
  generalize hW : w.alloc (.cells #[.int .i64 6, .bool false, .slice none 0 0, .slice none 0 0, .string ⟨#[]⟩, .slice A 2 2] 27) = w1 at *
  obtain ⟨q0, q1, q2, q3, q4, q5⟩ := hk.facts
  go_enter Tryz.func64, Tryz.ntmps64
  go_wp2_with fail
  first | rw [hW] | skip
  refine (isNoNum_c _).mono ?_
  rintro e w2 ⟨rfl, hb⟩
  replace hk := hk.below hb
  replace hb0 := hb0.trans (hb.mono hb0.size)
  clear hb q0 q1 q2 q3 q4 q5
  obtain ⟨q0, q1, q2, q3, q4, q5⟩ := hk.facts
  go_wp2
  go_ret
  exact ⟨rfl, hb0⟩
set_option maxHeartbeats 1600000 in
theorem isNode_num (y : Rv) (r : Rat) (b : Bool) (lo : Nat) (hbb : b = true ↔ NumOk r) (w : World) (h : Rt w lo y r) (ht : Tb w) :
    Calls Tryz.prog 64 #[.agg #[.int .i64 1, .bool y.s, .slice y.A y.n y.c, .slice y.B y.m y.d, .string ⟨#[]⟩, .slice none 0 0]] w fun e w' => e = .returned (.bool b) ∧ Below w.heap.size w w' := by
  have hb := Lib.hid hbb
  clear hbb
  replace h := h.below ((Below.refl w.heap.size w).alloc (Nat.le_refl _) (.cells #[.int .i64 1, .bool y.s, .slice y.A y.n y.c, .slice y.B y.m y.d, .string ⟨#[]⟩, .slice none 0 0] 27))
  replace ht := ht.below ((Below.refl w.heap.size w).alloc (Nat.le_refl _) (.cells #[.int .i64 1, .bool y.s, .slice y.A y.n y.c, .slice y.B y.m y.d, .string ⟨#[]⟩, .slice none 0 0] 27))
  have hk := C6.new w (.int .i64 1) (.bool y.s) (.slice y.A y.n y.c) (.slice y.B y.m y.d) (.string ⟨#[]⟩) (.slice none 0 0)
  have hb0 := (Below.refl w.heap.size w).alloc (Nat.le_refl _) (.cells #[.int .i64 1, .bool y.s, .slice y.A y.n y.c, .slice y.B y.m y.d, .string ⟨#[]⟩, .slice none 0 0] 27)
  generalize hW : w.alloc (.cells #[.int .i64 1, .bool y.s, .slice y.A y.n y.c, .slice y.B y.m y.d, .string ⟨#[]⟩, .slice none 0 0] 27) = w1 at *
  obtain ⟨q0, q1, q2, q3, q4, q5⟩ := hk.facts
  go_enter Tryz.func64, Tryz.ntmps64
  go_wp2_with fail
  first | rw [hW] | skip
  refine (isNum_c y r b lo _ h ht hb.out).mono ?_
  rintro e w2 ⟨rfl, hbw⟩
  replace hk := hk.below hbw
  replace hb0 := hb0.trans (hbw.mono hb0.size)
  clear q0 q1 q2 q3 q4 q5
  obtain ⟨q0, q1, q2, q3, q4, q5⟩ := hk.facts
  clear hb
  cases b with
  | true =>
    go_wp2
    go_ret
    exact ⟨rfl, hb0⟩
  | false =>
    go_wp2
    go_ret
    exact ⟨rfl, hb0⟩
set_option maxHeartbeats 1600000 in
theorem isNode_nm (s : ByteArray) (w : World) :
    Calls Tryz.prog 64 #[.agg #[.int .i64 2, .bool false, .slice none 0 0, .slice none 0 0, .string s, .slice none 0 0]] w fun e w' => e = .returned (.bool (isName s)) ∧ Below w.heap.size w w' := by
  have hk := C6.new w (.int .i64 2) (.bool false) (.slice none 0 0) (.slice none 0 0) (.string s) (.slice none 0 0)
  have hb0 := (Below.refl w.heap.size w).alloc (Nat.le_refl _) (.cells #[.int .i64 2, .bool false, .slice none 0 0, .slice none 0 0, .string s, .slice none 0 0] 27)
  generalize hW : w.alloc (.cells #[.int .i64 2, .bool false, .slice none 0 0, .slice none 0 0, .string s, .slice none 0 0] 27) = w1 at *
  obtain ⟨q0, q1, q2, q3, q4, q5⟩ := hk.facts
  go_enter Tryz.func64, Tryz.ntmps64
  go_wp2_with fail
  first | rw [hW] | skip
  refine (isNoNum_c _).mono ?_
  rintro e w2 ⟨rfl, hb⟩
  replace hk := hk.below hb
  replace hb0 := hb0.trans (hb.mono hb0.size)
  clear hb q0 q1 q2 q3 q4 q5
  obtain ⟨q0, q1, q2, q3, q4, q5⟩ := hk.facts
  go_wp2_with fail
  refine (Name_c s _).mono ?_
  rintro e w' ⟨rfl, rfl⟩
  cases hn : isName s with
  | true =>
    have HN := Lib.hid hn
    clear hn
    go_wp2
    go_ret
    exact ⟨by first | rfl | (rw [HN.out]; rfl), hb0⟩
  | false =>
    have HN := Lib.hid hn
    clear hn
    go_wp2
    go_ret
    exact ⟨by first | rfl | (rw [HN.out]; rfl), hb0⟩
end Go.Proofs.YtdpbceipiappjaaGreatDoor

namespace Go.Proofs.YtdpbceipiappjaaGreatDoor
set_option maxRecDepth 20000
open Go.RowKit

/-- A block that holds how many nodes are left. -/
structure IC (w0 : World) (q : Nat) (w : World) (l : Nat) : Prop where
  ge : w0.heap.size ≤ q
  below : Below w0.heap.size w0 w
  blk : w.heap[q]? = some (.cells #[.int .i64 l] 3 (0, 0))
section
variable {w0 w w' : World} {q l : Nat}
theorem IC.lt (h : IC w0 q w l) : q < w.heap.size := by
  rcases Nat.lt_or_ge q w.heap.size with h1 | h1
  · exact h1
  · have : w.heap[q]? = none := Array.getElem?_eq_none h1
    rw [h.blk] at this; cases this
theorem IC.facts (h : IC w0 q w l) : w.cell? ⟨q, 0, none⟩ = some (.int .i64 l) ∧ w.frozen? ⟨q, 0, none⟩ = false := by
  have h' := h.blk
  refine ⟨?_, ?_⟩ <;> simp [World.cell?, World.frozen?, h']
theorem IC.next (h : IC w0 q w l) (hb : Below w.heap.size w w') : IC w0 q w' l := ⟨h.ge, h.below.trans (hb.mono h.below.size), (hb.block q h.lt).trans h.blk⟩
theorem IC.alloc (h : IC w0 q w l) (o : Obj) : IC w0 q (w.alloc o) l := h.next ((Below.refl _ _).alloc (Nat.le_refl _) o)
theorem IC.set (h : IC w0 q w l) {m : Nat} {v : Int} (hv : v = (m : Int)) : IC w0 q (w.setCell ⟨q, 0, none⟩ (.int .i64 v)) m := by
  subst hv
  refine ⟨h.ge, h.below.trans (((But.refl q w).set _ _).below h.ge h.below.size), ?_⟩
  show (w.heap.modify q _)[q]? = _
  rw [Array.getElem?_modify, if_pos rfl, h.blk]; rfl
end
def sumN (ks : Nat → Ex) : Nat → Nat
  | 0 => 0
  | i + 1 => sumN ks i + (ks i).nodes
theorem sumN_mono (ks : Nat → Ex) {i n : Nat} (h : i < n) : sumN ks (i + 1) ≤ sumN ks n := by
  induction n with
  | zero => omega
  | succ n ih =>
    by_cases h1 : i = n
    · subst h1; exact Nat.le_refl _
    · exact Nat.le_trans (ih (by omega)) (Nat.le_add_right _ _)
/-- What the count answers. -/
def MB (w0 : World) (q : Nat) (w : World) (t : Ex) (d l : Nat) (e : Ending) (w' : World) : Prop :=
  ∃ b l', e = .returned (.bool b) ∧ (b = true ↔ t.may d l) ∧ (b = true → l' + t.nodes = l) ∧ IC w0 q w' l' ∧ But q w w'
/-- Six cells of a row of structs. -/
def At6 (w : World) (b0 o : Nat) (x : Ev) : Prop :=
  w.cell? ⟨b0, o, none⟩ = some (.int .i64 x.k) ∧ w.cell? ⟨b0, o + 1, none⟩ = some (.bool x.r.s) ∧ w.cell? ⟨b0, o + 2, none⟩ = some (.slice x.r.A x.r.n x.r.c) ∧ w.cell? ⟨b0, o + 3, none⟩ = some (.slice x.r.B x.r.m x.r.d) ∧
  w.cell? ⟨b0, o + 4, none⟩ = some (.string x.s) ∧ w.cell? ⟨b0, o + 5, none⟩ = some (.slice x.K x.n x.c)
theorem At6.keep {w w' : World} {b0 o : Nat} {x : Ev} (h : At6 w b0 o x) (hk : w'.heap[b0]? = w.heap[b0]?) : At6 w' b0 o x := by
  obtain ⟨h0, h1, h2, h3, h4, h5⟩ := h
  have e : ∀ j, w'.cell? ⟨b0, j, none⟩ = w.cell? ⟨b0, j, none⟩ := fun j => World.cell?_of_block hk
  exact ⟨(e _).trans h0, (e _).trans h1, (e _).trans h2, (e _).trans h3, (e _).trans h4, (e _).trans h5⟩
set_option maxHeartbeats 8000000 in
theorem mayBe_step {w0 w : World} {q b0 n d l : Nat} {v : Ev} (nb : Bool) (t : Ex) (xs : Nat → Ev) (ks : Nat → Ex)
    (hnode : ∀ w', Below w.heap.size w w' → Calls Tryz.prog 64 #[.agg #[.int .i64 v.k, .bool v.r.s, .slice v.r.A v.r.n v.r.c, .slice v.r.B v.r.m v.r.d, .string v.s, .slice v.K v.n v.c]] w' fun e w'' => e = .returned (.bool nb) ∧ Below w'.heap.size w' w'')
    (hv : v.K = some ⟨b0, 0, none⟩) (hn : v.n = n) (hc : v.c = n) (hn2 : n ≤ 2) (hpos : 0 < n) (hbq : b0 ≠ q) (hb0 : b0 < w.heap.size)
    (hx : ∀ i, i < n → At6 w b0 (i * 6) (xs i))
    (IH : ∀ i, i < n → ∀ x, xs i = x → ∀ (w1 : World) (d l : Nat), IC w0 q w1 l → But q w w1 → d ≤ 1000 → l ≤ 1000 → Calls Tryz.prog 44 #[.agg #[.int .i64 x.k, .bool x.r.s, .slice x.r.A x.r.n x.r.c, .slice x.r.B x.r.m x.r.d, .string x.s, .slice x.K x.n x.c], .int .i64 d, .pointer (some ⟨q, 0, none⟩)] w1 (MB w0 q w1 (ks i) d l))
    (hiff : t.may d l ↔ nb = true ∧ 0 < d ∧ 0 < l ∧ (∀ i, i < n → (ks i).fine ∧ (ks i).deep ≤ d - 1) ∧ 1 + sumN ks n ≤ l) (hnn : t.nodes = 1 + sumN ks n)
    (hI : IC w0 q w l) (hd : d ≤ 1000) (hl : l ≤ 1000) :
    Calls Tryz.prog 44 #[.agg #[.int .i64 v.k, .bool v.r.s, .slice v.r.A v.r.n v.r.c, .slice v.r.B v.r.m v.r.d, .string v.s, .slice v.K v.n v.c], .int .i64 d, .pointer (some ⟨q, 0, none⟩)] w (MB w0 q w t d l) := by
  obtain ⟨vk, vr, vs, vK, vn, vc⟩ := v
  dsimp only at hv hn hc
  subst hv; subst hn; subst hc
  have hq := hI.lt
  have HIFF := Lib.hid hiff
  clear hiff
  by_cases hd0 : d = 0
  · subst hd0
    go_enter Tryz.func44, Tryz.ntmps44
    go_wp2
    go_ret
    exact ⟨false, l, rfl, ⟨fun h => Bool.noConfusion h, fun h => absurd (HIFF.out.1 h).2.1 (by omega)⟩, fun h => Bool.noConfusion h, hI.alloc _, (But.refl _ _).alloc _⟩
  · have i1 : ¬ (d : Int) = 0 := by omega
    have j1 : ((d : Int) == 0) = false := beq_eq_false_iff_ne.2 i1
    obtain ⟨h0, f0⟩ := hI.facts
    by_cases hl0 : l = 0
    · subst hl0
      go_enter Tryz.func44, Tryz.ntmps44
      go_wp2
      go_ret
      exact ⟨false, 0, rfl, ⟨fun h => Bool.noConfusion h, fun h => absurd (HIFF.out.1 h).2.2.1 (by omega)⟩, fun h => Bool.noConfusion h, hI.alloc _, (But.refl _ _).alloc _⟩
    · have i2 : ¬ (l : Int) = 0 := by omega
      have j2 : ((l : Int) == 0) = false := beq_eq_false_iff_ne.2 i2
      clear hd0 hl0
      go_enter Tryz.func44, Tryz.ntmps44
      go_wp2_with fail
      have hIa := hI.alloc (.cells #[.int .i64 vk, .bool vr.s, .slice vr.A vr.n vr.c, .slice vr.B vr.m vr.d, .string vs, .slice (some ⟨b0, 0, none⟩) vc vc] 27)
      have hba := (But.refl q w).alloc (.cells #[.int .i64 vk, .bool vr.s, .slice vr.A vr.n vr.c, .slice vr.B vr.m vr.d, .string vs, .slice (some ⟨b0, 0, none⟩) vc vc] 27)
      have k_e := C6.new w (.int .i64 vk) (.bool vr.s) (.slice vr.A vr.n vr.c) (.slice vr.B vr.m vr.d) (.string vs) (.slice (some ⟨b0, 0, none⟩) vc vc)
      have hz : (w.alloc (.cells #[.int .i64 vk, .bool vr.s, .slice vr.A vr.n vr.c, .slice vr.B vr.m vr.d, .string vs, .slice (some ⟨b0, 0, none⟩) vc vc] 27)).heap.size = w.heap.size + 1 := by simp
      refine (hnode _ ((Below.refl _ _).alloc (Nat.le_refl _) _)).mono ?_
      rintro e w2 ⟨rfl, hb⟩
      replace hIa := hIa.next hb
      replace hba := hba.trans (.of hb)
      replace k_e := k_e.below hb
      have hz2 := hb.size
      clear hb h0 f0 hnode
      obtain ⟨h0, f0⟩ := hIa.facts
      obtain ⟨e0, e1, e2, e3, e4, e5⟩ := k_e.facts
      cases nb with
      | false =>
        go_wp2
        go_ret
        exact ⟨false, l, rfl, ⟨fun h => Bool.noConfusion h, fun h => absurd (HIFF.out.1 h).1 (by decide)⟩, fun h => Bool.noConfusion h, hIa, hba⟩
      | true =>
        have i3 : (0 : Int) < (l : Int) := by omega
        have i4 : (0 : Int) < (d : Int) := by omega
        have i5 : (d : Int) ≤ 1000 := by omega
        have i6 : (l : Int) ≤ 1000 := by omega
        have l1 : 1 ≤ l := by omega
        have d1 : 1 ≤ d := by omega
        go_wp2
        have hI1 := hIa.set (m := l - 1) (v := (l : Int) - 1) (by omega)
        have hb1 := hba.set 0 (.int .i64 ((l : Int) - 1))
        have k_1 := k_e.setOther (g := q) (by omega) 0 (.int .i64 ((l : Int) - 1))
        clear h0 f0 e0 e1 e2 e3 e4 e5 hIa hba k_e i2 j2 i3 i6
        generalize w2.setCell ⟨q, 0, none⟩ (.int .i64 ((l : Int) - 1)) = w3 at *
        go_loopw [30] (fun iv wr => ∃ (i l' : Nat), i ≤ vc ∧ iv = .int .i64 i ∧ IC w0 q wr l' ∧ But q w wr ∧ Hid (∀ j, j < i → (ks j).fine ∧ (ks j).deep ≤ d - 1) ∧ l' + 1 + sumN ks i = l) (fun iv _ => vc - (intOf iv).toNat)
        case atStart => exact ⟨0, l - 1, Nat.zero_le _, rfl, hI1, hb1, fun j h => absurd h (by omega), by show l - 1 + 1 + 0 = l; omega⟩
        case round =>
          obtain ⟨i, l', hi, rfl, hIr, hbr, HJ, hsum⟩ := hrel
          have a0 : (0 : Int) ≤ (i : Int) := by omega
          by_cases hlt : i < vc
          · have a1 : (i : Int) < (vc : Int) := by omega
            have hx6 := (hx i hlt).keep (hbr.block b0 hb0 hbq)
            have HI := IH i hlt
            obtain ⟨x, hxi⟩ : ∃ x, Hid (xs i = x) := ⟨_, rfl⟩
            rw [hxi.out] at hx6
            obtain ⟨y0, y1, y2, y3, y4, y5⟩ := hx6
            go_wp2_with fail
            have hd1 : (d : Int) - 1 = ((d - 1 : Nat) : Int) := by omega
            rw [hd1]
            clear hd1 y0 y1 y2 y3 y4 y5
            refine (HI x hxi.out _ (d - 1) l' (hIr.alloc _) (hbr.alloc _) (by omega) (by omega)).mono ?_
            rintro e w4 ⟨b, l2, rfl, hbi, hbl, hI4, hb4⟩
            have hb5 := (hbr.alloc _).trans hb4
            cases b with
            | false =>
              have hno : Hid (¬ t.may d l) := by
                intro h
                have h5 := HIFF.out.1 h
                have h6 := h5.2.2.2.1 i hlt
                have h7 := sumN_mono ks hlt
                have h8 := h5.2.2.2.2
                have h9 : ¬ (ks i).nodes ≤ l' := fun h => Bool.noConfusion (hbi.2 ⟨h6.1, h6.2, h⟩)
                rw [show sumN ks (i + 1) = sumN ks i + (ks i).nodes from rfl] at h7
                omega
              clear hbi hbl hb4
              go_wp2
              go_ret
              exact ⟨false, l2, rfl, ⟨fun h => Bool.noConfusion h, fun h => absurd h hno.out⟩, fun h => Bool.noConfusion h, hI4, hb5⟩
            | true =>
              have hk := hbi.1 rfl
              have hm := hbl rfl
              have HJ2 : Hid (∀ j, j < i + 1 → (ks j).fine ∧ (ks j).deep ≤ d - 1) := fun j hj => by
                by_cases h : j = i
                · subst h; exact ⟨hk.1, hk.2.1⟩
                · exact HJ.out j (by omega)
              have hs2 : l2 + 1 + sumN ks (i + 1) = l := by unfold sumN; omega
              have a2 : (i : Int) ≤ 2 := by omega
              clear hbi hbl hb4 hk hm
              go_wp2
              go_roundw
              case rel => exact ⟨i + 1, l2, by omega, by go_num, hI4, hb5, HJ2, hs2⟩
              case measure => simp [intOf]; omega
          · have e : i = vc := by omega
            have a1 : ¬ (i : Int) < (vc : Int) := by omega
            subst e
            have HY : Hid (t.may d l) := HIFF.out.2 ⟨by first | rfl | trivial, by omega, by omega, HJ.out, by omega⟩
            have HN : Hid (l' + t.nodes = l) := by show _ = _; omega
            clear hsum hnn
            go_wp2
            go_ret
            exact ⟨true, l', rfl, ⟨fun _ => HY.out, fun _ => rfl⟩, fun _ => HN.out, hIr, hbr⟩
set_option maxHeartbeats 8000000 in
theorem mayBe_leaf {w0 w : World} {q d l : Nat} {v : Ev} (nb : Bool) (t : Ex)
    (hnode : ∀ w', Below w.heap.size w w' → Calls Tryz.prog 64 #[.agg #[.int .i64 v.k, .bool v.r.s, .slice v.r.A v.r.n v.r.c, .slice v.r.B v.r.m v.r.d, .string v.s, .slice v.K v.n v.c]] w' fun e w'' => e = .returned (.bool nb) ∧ Below w'.heap.size w' w'')
    (hv : v.K = none) (hn : v.n = 0) (hc : v.c = 0)
    (hiff : t.may d l ↔ nb = true ∧ 0 < d ∧ 0 < l) (hnn : t.nodes = 1)
    (hI : IC w0 q w l) (hd : d ≤ 1000) (hl : l ≤ 1000) :
    Calls Tryz.prog 44 #[.agg #[.int .i64 v.k, .bool v.r.s, .slice v.r.A v.r.n v.r.c, .slice v.r.B v.r.m v.r.d, .string v.s, .slice v.K v.n v.c], .int .i64 d, .pointer (some ⟨q, 0, none⟩)] w (MB w0 q w t d l) := by
  obtain ⟨vk, vr, vs, vK, vn, vc⟩ := v
  dsimp only at hv hn hc
  subst hv; subst hn; subst hc
  have hq := hI.lt
  have HIFF := Lib.hid hiff
  clear hiff
  by_cases hd0 : d = 0
  · subst hd0
    go_enter Tryz.func44, Tryz.ntmps44
    go_wp2
    go_ret
    exact ⟨false, l, rfl, ⟨fun h => Bool.noConfusion h, fun h => absurd (HIFF.out.1 h).2.1 (by omega)⟩, fun h => Bool.noConfusion h, hI.alloc _, (But.refl _ _).alloc _⟩
  · have i1 : ¬ (d : Int) = 0 := by omega
    have j1 : ((d : Int) == 0) = false := beq_eq_false_iff_ne.2 i1
    obtain ⟨h0, f0⟩ := hI.facts
    by_cases hl0 : l = 0
    · subst hl0
      go_enter Tryz.func44, Tryz.ntmps44
      go_wp2
      go_ret
      exact ⟨false, 0, rfl, ⟨fun h => Bool.noConfusion h, fun h => absurd (HIFF.out.1 h).2.2 (by omega)⟩, fun h => Bool.noConfusion h, hI.alloc _, (But.refl _ _).alloc _⟩
    · have i2 : ¬ (l : Int) = 0 := by omega
      have j2 : ((l : Int) == 0) = false := beq_eq_false_iff_ne.2 i2
      clear hd0 hl0
      go_enter Tryz.func44, Tryz.ntmps44
      go_wp2_with fail
      have hIa := hI.alloc (.cells #[.int .i64 vk, .bool vr.s, .slice vr.A vr.n vr.c, .slice vr.B vr.m vr.d, .string vs, .slice none 0 0] 27)
      have hba := (But.refl q w).alloc (.cells #[.int .i64 vk, .bool vr.s, .slice vr.A vr.n vr.c, .slice vr.B vr.m vr.d, .string vs, .slice none 0 0] 27)
      have k_e := C6.new w (.int .i64 vk) (.bool vr.s) (.slice vr.A vr.n vr.c) (.slice vr.B vr.m vr.d) (.string vs) (.slice none 0 0)
      have hz : (w.alloc (.cells #[.int .i64 vk, .bool vr.s, .slice vr.A vr.n vr.c, .slice vr.B vr.m vr.d, .string vs, .slice none 0 0] 27)).heap.size = w.heap.size + 1 := by simp
      refine (hnode _ ((Below.refl _ _).alloc (Nat.le_refl _) _)).mono ?_
      rintro e w2 ⟨rfl, hb⟩
      replace hIa := hIa.next hb
      replace hba := hba.trans (.of hb)
      replace k_e := k_e.below hb
      have hz2 := hb.size
      clear hb h0 f0 hnode
      obtain ⟨h0, f0⟩ := hIa.facts
      obtain ⟨e0, e1, e2, e3, e4, e5⟩ := k_e.facts
      cases nb with
      | false =>
        go_wp2
        go_ret
        exact ⟨false, l, rfl, ⟨fun h => Bool.noConfusion h, fun h => absurd (HIFF.out.1 h).1 (by decide)⟩, fun h => Bool.noConfusion h, hIa, hba⟩
      | true =>
        have i3 : (0 : Int) < (l : Int) := by omega
        have i4 : (0 : Int) < (d : Int) := by omega
        have i5 : (d : Int) ≤ 1000 := by omega
        have i6 : (l : Int) ≤ 1000 := by omega
        have l1 : 1 ≤ l := by omega
        have d1 : 1 ≤ d := by omega
        go_wp2
        have hI1 := hIa.set (m := l - 1) (v := (l : Int) - 1) (by omega)
        have hb1 := hba.set 0 (.int .i64 ((l : Int) - 1))
        have k_1 := k_e.setOther (g := q) (by omega) 0 (.int .i64 ((l : Int) - 1))
        clear h0 f0 e0 e1 e2 e3 e4 e5 hIa hba k_e i2 j2 i3 i6
        generalize w2.setCell ⟨q, 0, none⟩ (.int .i64 ((l : Int) - 1)) = w3 at *
        go_loopw [30] (fun iv wr => iv = .int .i64 0 ∧ IC w0 q wr (l - 1) ∧ But q w wr) (fun _ _ => 0)
        case atStart => exact ⟨rfl, hI1, hb1⟩
        case round =>
          obtain ⟨rfl, hIr, hbr⟩ := hrel
          have HY : Hid (t.may d l) := HIFF.out.2 ⟨by first | rfl | trivial, by omega, by omega⟩
          have HN : Hid (l - 1 + t.nodes = l) := by show _ = _; omega
          clear hnn
          go_wp2
          go_ret
          exact ⟨true, l - 1, rfl, ⟨fun _ => HY.out, fun _ => rfl⟩, fun _ => HN.out, hIr, hbr⟩

theorem at6_two {w : World} {b0 : Nat} {x y : Ev} (h : w.heap[b0]? = some (.cells #[.int .i64 x.k, .bool x.r.s, .slice x.r.A x.r.n x.r.c, .slice x.r.B x.r.m x.r.d, .string x.s, .slice x.K x.n x.c, .int .i64 y.k, .bool y.r.s, .slice y.r.A y.r.n y.r.c, .slice y.r.B y.r.m y.r.d, .string y.s, .slice y.K y.n y.c] 27 (0, 0))) : At6 w b0 0 x ∧ At6 w b0 6 y := by
  refine ⟨⟨?_, ?_, ?_, ?_, ?_, ?_⟩, ⟨?_, ?_, ?_, ?_, ?_, ?_⟩⟩ <;> simp [World.cell?, h]
theorem at6_one {w : World} {b0 : Nat} {x : Ev} (h : w.heap[b0]? = some (.cells #[.int .i64 x.k, .bool x.r.s, .slice x.r.A x.r.n x.r.c, .slice x.r.B x.r.m x.r.d, .string x.s, .slice x.K x.n x.c] 27 (0, 0))) : At6 w b0 0 x := by
  refine ⟨?_, ?_, ?_, ?_, ?_, ?_⟩ <;> simp [World.cell?, h]
/-- Two by two. -/
def two_ {α : Type} (x y : α) : Nat → α | 0 => x | _ + 1 => y
theorem mayBe_c {w0 : World} {q : Nat} (ht0 : Tb w0) : ∀ (t : Ex), t.wf → ∀ (v : Ev) (w : World) (P : Nat → Prop) (d l : Nat), Tw w P t v → (∀ b, P b → b ≠ q) → IC w0 q w l → d ≤ 1000 → l ≤ 1000 →
    Calls Tryz.prog 44 #[.agg #[.int .i64 v.k, .bool v.r.s, .slice v.r.A v.r.n v.r.c, .slice v.r.B v.r.m v.r.d, .string v.s, .slice v.K v.n v.c], .int .i64 d, .pointer (some ⟨q, 0, none⟩)] w (MB w0 q w t d l) := by
  intro t
  induction t with
  | bad =>
    intro _ v w P d l hv hP hI hd hl
    subst hv
    exact mayBe_leaf false .bad (fun w' _ => isNode_bad w') rfl rfl rfl ⟨fun h => absurd h.1 (fun h => h), fun h => Bool.noConfusion h.1⟩ rfl hI hd hl
  | num r =>
    intro _ v w P d l hv hP hI hd hl
    obtain ⟨hv, hr, hrp⟩ := hv
    obtain ⟨b, hb⟩ : ∃ b : Bool, b = true ↔ NumOk r := by
      by_cases h : NumOk r
      · exact ⟨true, fun _ => h, fun _ => rfl⟩
      · exact ⟨false, fun h => Bool.noConfusion h, fun h1 => absurd h1 h⟩
    generalize v.r = y at *
    subst hv
    refine mayBe_leaf b (.num r) (fun w' hw => isNode_num y r b 0 hb w' (hr.below hw) ((ht0.below hI.below).below (hw.mono ?_))) rfl rfl rfl ?_ rfl hI hd hl
    · exact Nat.le_refl _
    · rw [hb]
      exact ⟨fun h => ⟨h.1, h.2.1, h.2.2⟩, fun h => ⟨h.1, h.2.1, h.2.2⟩⟩
  | nm s =>
    intro _ v w P d l hv hP hI hd hl
    have hv' : v = ⟨2, Rz, s, none, 0, 0⟩ := hv
    subst hv'
    exact mayBe_leaf (isName s) (.nm s) (fun w' _ => isNode_nm s w') rfl rfl rfl ⟨fun h => ⟨h.1, h.2.1, h.2.2⟩, fun h => ⟨h.1, h.2.1, h.2.2⟩⟩ rfl hI hd hl
  | bin k a b iha ihb =>
    intro hw v w P d l hv hP hI hd hl
    obtain ⟨hk, wa, wb⟩ := hw
    obtain ⟨b0, x, y, rfl, hp, hb0, hblk, ha, hb⟩ := hv
    obtain ⟨h6a, h6b⟩ := at6_two hblk
    refine mayBe_step (b0 := b0) (n := 2) true (.bin k a b) (two_ x y) (two_ a b) ?_ rfl rfl rfl (by omega) (by omega) (hP _ hp) hb0 ?_ ?_ ?_ ?_ hI hd hl
    · intro w' _
      rcases hk with rfl | rfl | rfl | rfl
      · exact isNode_bin3 _ w'
      · exact isNode_bin4 _ w'
      · exact isNode_bin5 _ w'
      · exact isNode_bin6 _ w'
    · intro i hi
      rcases i with _ | _ | i
      · exact h6a
      · exact h6b
      · omega
    · intro i hi z hz w1 d l hI1 hb1 hd hl
      rcases i with _ | _ | i
      · subst hz; exact iha wa x w1 P d l (ha.but hb1 hP) hP hI1 hd hl
      · subst hz; exact ihb wb y w1 P d l (hb.but hb1 hP) hP hI1 hd hl
      · omega
    · show (a.fine ∧ b.fine) ∧ (max a.deep b.deep + 1 ≤ d) ∧ 1 + a.nodes + b.nodes ≤ l ↔ _
      have s2 : sumN (two_ a b) 2 = 0 + a.nodes + b.nodes := rfl
      have n1 := a.nodes_pos
      rw [s2]
      constructor
      · rintro ⟨⟨h1, h2⟩, h3, h4⟩
        refine ⟨rfl, by omega, by omega, fun i hi => ?_, by omega⟩
        rcases i with _ | _ | i
        · exact ⟨h1, by show a.deep ≤ d - 1; omega⟩
        · exact ⟨h2, by show b.deep ≤ d - 1; omega⟩
        · omega
      · rintro ⟨_, h1, h2, h3, h4⟩
        have e0 : a.fine ∧ a.deep ≤ d - 1 := h3 0 (by omega)
        have e1 : b.fine ∧ b.deep ≤ d - 1 := h3 1 (by omega)
        exact ⟨⟨e0.1, e1.1⟩, by have := e0.2; have := e1.2; omega, by omega⟩
    · show 1 + a.nodes + b.nodes = 1 + (0 + a.nodes + b.nodes)
      omega
  | neg a iha =>
    intro hw v w P d l hv hP hI hd hl
    obtain ⟨b0, x, rfl, hp, hb0, hblk, ha⟩ := hv
    have h6a := at6_one hblk
    refine mayBe_step (b0 := b0) (n := 1) true (.neg a) (fun _ => x) (fun _ => a) ?_ rfl rfl rfl (by omega) (by omega) (hP _ hp) hb0 ?_ ?_ ?_ ?_ hI hd hl
    · exact fun w' _ => isNode_neg _ w'
    · intro i hi
      rcases i with _ | i
      · exact h6a
      · omega
    · intro i hi z hz w1 d l hI1 hb1 hd hl
      subst hz; exact iha hw x w1 P d l (ha.but hb1 hP) hP hI1 hd hl
    · show a.fine ∧ (a.deep + 1 ≤ d) ∧ 1 + a.nodes ≤ l ↔ _
      have s2 : sumN (fun _ => a) 1 = 0 + a.nodes := rfl
      have n1 := a.nodes_pos
      rw [s2]
      constructor
      · rintro ⟨h1, h3, h4⟩
        refine ⟨rfl, by omega, by omega, fun i hi => ⟨h1, by show a.deep ≤ d - 1; omega⟩, by omega⟩
      · rintro ⟨_, h1, h2, h3, h4⟩
        have e0 : a.fine ∧ a.deep ≤ d - 1 := h3 0 (by omega)
        exact ⟨e0.1, by have := e0.2; omega, by omega⟩
    · show 1 + a.nodes = 1 + (0 + a.nodes)
      omega
set_option maxHeartbeats 800000 in
theorem eIs_c {w : World} {P : Nat → Prop} {t : Ex} {v : Ev} (b : Bool) (hb : b = true ↔ t.may 32 256) (hw : t.wf) (hv : Tw w P t v) (ht : Tb w) :
    Calls Tryz.prog 27 #[.agg #[.int .i64 v.k, .bool v.r.s, .slice v.r.A v.r.n v.r.c, .slice v.r.B v.r.m v.r.d, .string v.s, .slice v.K v.n v.c]] w fun e w' => e = .returned (.bool b) ∧ Below w.heap.size w w' := by
  have hz : (w.alloc (.cells #[.int .i64 v.k, .bool v.r.s, .slice v.r.A v.r.n v.r.c, .slice v.r.B v.r.m v.r.d, .string v.s, .slice v.K v.n v.c] 27)).heap.size = w.heap.size + 1 := by simp
  have hI : IC w (w.heap.size + 1) ((w.alloc (.cells #[.int .i64 v.k, .bool v.r.s, .slice v.r.A v.r.n v.r.c, .slice v.r.B v.r.m v.r.d, .string v.s, .slice v.K v.n v.c] 27)).alloc (.cells #[.int .i64 256] 3)) 256 :=
    ⟨by omega, ((Below.refl _ _).alloc (Nat.le_refl _) _).alloc (by omega) _, by rw [← hz]; exact heap_alloc_new _ _⟩
  have hv2 := ((hv.lt.wide (Q := fun b => b < w.heap.size) (fun b h => h.2)).alloc (.cells #[.int .i64 v.k, .bool v.r.s, .slice v.r.A v.r.n v.r.c, .slice v.r.B v.r.m v.r.d, .string v.s, .slice v.K v.n v.c] 27)).alloc (.cells #[.int .i64 256] 3)
  have hb0 := (((But.refl (w.heap.size + 1) w).alloc (.cells #[.int .i64 v.k, .bool v.r.s, .slice v.r.A v.r.n v.r.c, .slice v.r.B v.r.m v.r.d, .string v.s, .slice v.K v.n v.c] 27)).alloc (.cells #[.int .i64 256] 3))
  go_enter Tryz.func27, Tryz.ntmps27
  go_wp2_with fail
  refine (mayBe_c ht t hw v _ _ 32 256 hv2 (fun b h => by omega) hI (by omega) (by omega)).mono ?_
  rintro e w' ⟨b', l', rfl, hbi, _, _, hb1⟩
  have e1 : b' = b := by rw [Bool.eq_iff_iff, hbi, hb]
  subst e1
  go_wp2
  go_ret
  exact ⟨rfl, (hb0.trans hb1).new (by omega)⟩
end Go.Proofs.YtdpbceipiappjaaGreatDoor
