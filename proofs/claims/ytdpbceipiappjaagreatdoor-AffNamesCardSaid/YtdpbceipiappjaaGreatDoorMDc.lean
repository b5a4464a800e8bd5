/-
  Texts of numbers without a sign: whole ones, with a point, fractions. No program.
  dec's Parse, the program's way.
  dec's Parse, the program's way: a point; a text without its sign; the whole.
  The known answer that the laws of dec ask for: halves to the even one.
  How great a rounded number is.
  Exact, both ways, as one answer.
  The texts that Print, Exact and Fixed write are read as their numbers.
  Whole numbers: their texts, their roundings. No program.
  The document's Parse, first part: how many digits stand at the beginning; texts' parts.
-/
import Derived.Test.YtdpbceipiappjaaGreatDoorMTx
import Derived.Test.YtdpbceipiappjaaGreatDoorMDb
import Derived.Test.YtdpbceipiappjaaGreatDoorMDa
import Derived.Test.YtdpbceipiappjaaGreatDoorMRf
namespace Go.Proofs.YtdpbceipiappjaaGreatDoor
set_option maxRecDepth 20000

/-- At least one digit, and no other sign. -/
structure IsDs (l : List UInt8) : Prop where
  pos : l ≠ []
  dig : Dig l
/-- A text without its sign that is a number x by y. -/
inductive Num (m : List UInt8) : Nat → Nat → Prop
  | whole : IsDs m → Num m (nu m) 1
  | point (a b : List UInt8) : m = a ++ 46 :: b → IsDs a → IsDs b → Num m (nu (a ++ b)) (10 ^ b.length)
  | frac (a b : List UInt8) : m = a ++ 47 :: b → IsDs a → IsDs b → nu b ≠ 0 → Num m (nu a) (nu b)
theorem Num.den {m : List UInt8} {x y : Nat} (h : Num m x y) : y ≠ 0 := by
  cases h with
  | whole _ => omega
  | point a b _ _ _ => have := ten_pos b.length; omega
  | frac a b _ _ _ h => exact h
theorem Dig.notin {l : List UInt8} (h : Dig l) {c : UInt8} (hc : c.toNat < 48) : c ∉ l := fun hm => by have := h c hm; omega
/-- A text is cut in one way at the first of a sign. -/
theorem cut_same {c : UInt8} {a b a' b' : List UInt8} (h : a ++ c :: b = a' ++ c :: b') (ha : c ∉ a) (ha' : c ∉ a') : a = a' ∧ b = b' := by
  induction a generalizing a' with
  | nil =>
    cases a' with
    | nil => simpa using h
    | cons d t =>
      simp at h
      exact absurd (h.1 ▸ List.mem_cons_self ..) ha'
  | cons d t ih =>
    cases a' with
    | nil =>
      simp at h
      exact absurd (h.1 ▸ List.mem_cons_self ..) ha
    | cons d' t' =>
      simp at h
      obtain ⟨rfl, h⟩ := h
      obtain ⟨rfl, h2⟩ := ih h (fun hm => ha (List.mem_cons_of_mem _ hm)) (fun hm => ha' (List.mem_cons_of_mem _ hm))
      exact ⟨rfl, h2⟩
theorem num_no_frac {m a b : List UInt8} (hm : m = a ++ 47 :: b) (ha : (47 : UInt8) ∉ a) (h : ¬ (IsDs a ∧ IsDs b ∧ nu b ≠ 0)) : ∀ x y, ¬ Num m x y := by
  rintro x y (h1 | ⟨a2, b2, h1, h2, h3⟩ | ⟨a2, b2, h1, h2, h3, h4⟩)
  · exact h1.dig.notin (c := 47) (by decide) (by rw [hm]; simp)
  · have : (47 : UInt8) ∈ a2 ++ 46 :: b2 := by rw [← h1, hm]; simp
    rcases List.mem_append.1 this with h | h
    · exact h2.dig.notin (c := 47) (by decide) h
    · rcases List.mem_cons.1 h with h | h
      · exact absurd h (by decide)
      · exact h3.dig.notin (c := 47) (by decide) h
  · obtain ⟨rfl, rfl⟩ := cut_same (hm.symm.trans h1) ha (h2.dig.notin (by decide))
    exact h ⟨h2, h3, h4⟩
theorem num_no_point {m a b : List UInt8} (hm : m = a ++ 46 :: b) (hs : (47 : UInt8) ∉ m) (ha : (46 : UInt8) ∉ a) (h : ¬ (IsDs a ∧ IsDs b)) : ∀ x y, ¬ Num m x y := by
  rintro x y (h1 | ⟨a2, b2, h1, h2, h3⟩ | ⟨a2, b2, h1, h2, h3, h4⟩)
  · exact h1.dig.notin (c := 46) (by decide) (by rw [hm]; simp)
  · obtain ⟨rfl, rfl⟩ := cut_same (hm.symm.trans h1) ha (h2.dig.notin (by decide))
    exact h ⟨h2, h3⟩
  · exact hs (by rw [h1]; simp)
theorem num_no_whole {m : List UInt8} (hs : (47 : UInt8) ∉ m) (hp : (46 : UInt8) ∉ m) (h : ¬ IsDs m) : ∀ x y, ¬ Num m x y := by
  rintro x y (h1 | ⟨a2, b2, h1, h2, h3⟩ | ⟨a2, b2, h1, h2, h3, h4⟩)
  · exact h h1
  · exact hp (by rw [h1]; simp)
  · exact hs (by rw [h1]; simp)
theorem IsDs.of {l : List UInt8} (h : IsNum l) : IsDs l := ⟨by have := h.pos; intro e; subst e; simp at this, h.dig⟩
theorem IsDs.num {l : List UInt8} (h : IsDs l) (hl : l.length ≤ 400) : IsNum l := ⟨List.length_pos_iff.2 h.pos, hl, h.dig⟩
/-- How many digits stand at the beginning. -/
structure RunAt (l : List UInt8) (k : Nat) : Prop where
  le : k ≤ l.length
  dig : Dig (l.take k)
  stop : k = l.length ∨ ∃ c, l[k]? = some c ∧ ¬ (48 ≤ c.toNat ∧ c.toNat ≤ 57)
theorem run_ex : ∀ l : List UInt8, ∃ k, RunAt l k := by
  intro l
  induction l with
  | nil => exact ⟨0, Nat.le_refl _, Dig.nil, .inl rfl⟩
  | cons c l ih =>
    by_cases h : 48 ≤ c.toNat ∧ c.toNat ≤ 57
    · obtain ⟨k, h1, h2, h3⟩ := ih
      refine ⟨k + 1, by simpa using h1, ?_, ?_⟩
      · rw [List.take_succ_cons]
        exact (Dig.one h.1 h.2).app h2
      · simpa using h3
    · exact ⟨0, Nat.zero_le _, Dig.nil, .inr ⟨c, rfl, h⟩⟩
/-- What the document's Parse sees behind its first digits. -/
theorem RunAt.split {l : List UInt8} {k : Nat} (h : RunAt l k) (hk : k ≠ l.length) : ∃ c d, l = l.take k ++ c :: d ∧ l.drop k = c :: d ∧ ¬ (48 ≤ c.toNat ∧ c.toNat ≤ 57) := by
  have hlt : k < l.length := by have := h.le; omega
  rcases h.stop with h1 | ⟨c, h1, h2⟩
  · exact absurd h1 hk
  · have e : l.drop k = c :: l.drop (k + 1) := by
      rw [List.drop_eq_getElem_cons hlt]
      rw [List.getElem?_eq_getElem hlt] at h1
      injection h1 with h1
      rw [h1]
    exact ⟨c, _, by rw [← e, List.take_append_drop], e, h2⟩
theorem RunAt.full {l : List UInt8} {k : Nat} (h : RunAt l k) (hk : k = l.length) : Dig l := by
  have := h.dig
  rw [hk, List.take_length] at this
  exact this
theorem RunAt.all {l : List UInt8} {k : Nat} (h : RunAt l k) (hd : Dig l) : k = l.length := by
  rcases h.stop with h1 | ⟨c, h1, h2⟩
  · exact h1
  · exact absurd (hd c (List.mem_of_getElem? h1)) h2
theorem num_no_start {m : List UInt8} (h : RunAt m 0) : ∀ x y, ¬ Num m x y := by
  have key : ∀ a t : List UInt8, IsDs a → m = a ++ t → False := by
    intro a t ha hm
    obtain ⟨c, a', rfl⟩ := List.exists_cons_of_ne_nil ha.pos
    rcases h.stop with h1 | ⟨c', h1, h2⟩
    · rw [hm] at h1; simp at h1
    · rw [hm] at h1
      simp at h1
      subst h1
      exact h2 ha.dig.head
  rintro x y (h1 | ⟨a2, b2, h1, h2, h3⟩ | ⟨a2, b2, h1, h2, h3, h4⟩)
  · exact key m [] h1 (by simp)
  · exact key _ _ h2 h1
  · exact key _ _ h2 h1
/-- Behind digits, a sign that is none. -/
theorem num_no_sign {m a d : List UInt8} {c : UInt8} (hm : m = a ++ c :: d) (ha : Dig a) (hc : ¬ (48 ≤ c.toNat ∧ c.toNat ≤ 57)) (h : ¬ (c = 46 ∧ IsDs a ∧ IsDs d)) (h' : ¬ (c = 47 ∧ IsDs a ∧ IsDs d ∧ nu d ≠ 0)) : ∀ x y, ¬ Num m x y := by
  have first : ∀ a2 b2 : List UInt8, ∀ c2 : UInt8, Dig a2 → ¬ (48 ≤ c2.toNat ∧ c2.toNat ≤ 57) → a ++ c :: d = a2 ++ c2 :: b2 → a = a2 ∧ c = c2 ∧ d = b2 := by
    intro a2 b2 c2 h2 hc2
    clear hm h h'
    induction a generalizing a2 with
    | nil =>
      intro e
      cases a2 with
      | nil => simp at e; exact ⟨rfl, e.1, e.2⟩
      | cons e1 t => simp at e; exact absurd (e.1 ▸ h2.head) hc
    | cons e1 t ih =>
      intro e
      cases a2 with
      | nil => simp at e; exact absurd (e.1 ▸ ha.head) hc2
      | cons e2 t2 =>
        simp at e
        obtain ⟨rfl, e⟩ := e
        obtain ⟨rfl, h4, h5⟩ := ih ha.tail t2 h2.tail e
        exact ⟨rfl, h4, h5⟩
  rintro x y (h1 | ⟨a2, b2, h1, h2, h3⟩ | ⟨a2, b2, h1, h2, h3, h4⟩)
  · exact hc (h1.dig c (by rw [hm]; simp))
  · obtain ⟨rfl, rfl, rfl⟩ := first _ _ _ h2.dig (by decide) (hm.symm.trans h1)
    exact h ⟨rfl, h2, h3⟩
  · obtain ⟨rfl, rfl, rfl⟩ := first _ _ _ h2.dig (by decide) (hm.symm.trans h1)
    exact h' ⟨rfl, h2, h3, h4⟩
/-- How great the parts are. -/
theorem Num.len {m : List UInt8} {x y : Nat} (h : Num m x y) (hl : m.length ≤ 400) : (lim x).length ≤ 50 ∧ (lim y).length ≤ 50 := by
  have one : (lim 1).length ≤ 50 := by have := lim_len_lt (n := 1) (k := 1) (by omega); omega
  cases h with
  | whole h => exact ⟨nu_len' h.dig hl, one⟩
  | point a b hm ha hb =>
    have hab : (a ++ b).length ≤ 400 := by rw [hm] at hl; simp at hl ⊢; omega
    refine ⟨nu_len' (ha.dig.app hb.dig) hab, ?_⟩
    refine lim_len_lt ?_
    obtain ⟨q, hq⟩ : ∃ q : Nat, q = 50 := ⟨_, rfl⟩
    rw [← hq]
    have h3 : 10 ^ b.length ≤ 10 ^ (8 * q) := Nat.pow_le_pow_right (by omega) (by simp at hab; omega)
    have h4 : 10 ^ (8 * q) < 4294967296 ^ q := by
      rw [Nat.pow_mul]; exact Nat.pow_lt_pow_left (by omega) (by omega)
    omega
  | frac a b hm ha hb h0 =>
    have h1 : a.length ≤ 400 ∧ b.length ≤ 400 := by rw [hm] at hl; simp at hl; omega
    exact ⟨nu_len' ha.dig h1.1, nu_len' hb.dig h1.2⟩
/-- A text's sign, and what is behind it. -/
structure Sgn (l : List UInt8) (neg : Bool) (m : List UInt8) : Prop where
  yes : neg = true → l = 45 :: m
  no : neg = false → l = m ∧ l.head? ≠ some 45
theorem sgn_ex (l : List UInt8) : ∃ neg m, Sgn l neg m := by
  cases l with
  | nil => exact ⟨false, [], (fun h => by cases h), (fun _ => ⟨rfl, by simp⟩)⟩
  | cons c t =>
    by_cases h : c = 45
    · subst h; exact ⟨true, t, (fun _ => rfl), (fun h => by cases h)⟩
    · exact ⟨false, c :: t, (fun h => by cases h), (fun _ => ⟨rfl, by simpa using h⟩)⟩
end Go.Proofs.YtdpbceipiappjaaGreatDoor

namespace Go.Proofs.YtdpbceipiappjaaGreatDoor
set_option maxRecDepth 20000
open Go.RowKit

/-- The library's variable holds some int. -/
def Mx (w : World) : Prop := ∃ m : Int, w.cell? ⟨3, 0, none⟩ = some (.int .i64 m)
theorem Mx.below {w w' : World} (h : Mx w) (hb : Below w.heap.size w w') : Mx w' := by
  obtain ⟨m, hm⟩ := h
  refine ⟨m, (hb.cell (p := ⟨3, 0, none⟩) ?_).trans hm⟩
  rcases Nat.lt_or_ge 3 w.heap.size with h1 | h1
  · exact h1
  · have : w.heap[3]? = none := Array.getElem?_eq_none h1
    simp [World.cell?, this] at hm

/-- What a part of Parse answers: two rows and whether it is a number. -/
def PSz (m : List UInt8) (w : World) (e : Ending) (w' : World) : Prop :=
  ∃ v1 v2 b, e = .returned (.tuple #[v1, v2, .bool b]) ∧ Below w.heap.size w w' ∧ (b = true → ∃ x y A c B d, Num m x y ∧ v1 = .slice A (lim x).length c ∧ v2 = .slice B (lim y).length d ∧ (lim x).length ≤ c ∧ (lim y).length ≤ d ∧ Row w' 0 A (lim x).length (lim x) ∧ Row w' 0 B (lim y).length (lim y)) ∧ (b = false → ∀ x y, ¬ Num m x y)
theorem PSz.bad {m : List UInt8} {w w' : World} {v1 v2 : Value} (h : ∀ x y, ¬ Num m x y) (hb : Below w.heap.size w w') : PSz m w (.returned (.tuple #[v1, v2, .bool false])) w' :=
  ⟨v1, v2, false, rfl, hb, (fun h => by cases h), fun _ => h⟩
theorem PSz.good {m : List UInt8} {w w' : World} {x y c d : Nat} {A B : Option Addr} (h : Num m x y) (hb : Below w.heap.size w w') (hc : (lim x).length ≤ c) (hd : (lim y).length ≤ d) (h1 : Row w' 0 A (lim x).length (lim x)) (h2 : Row w' 0 B (lim y).length (lim y)) :
    PSz m w (.returned (.tuple #[.slice A (lim x).length c, .slice B (lim y).length d, .bool true])) w' :=
  ⟨_, _, true, rfl, hb, (fun _ => ⟨x, y, A, c, B, d, h, rfl, rfl, hc, hd, h1, h2⟩), fun h => by cases h⟩

end Go.Proofs.YtdpbceipiappjaaGreatDoor

namespace Go.Proofs.YtdpbceipiappjaaGreatDoor
set_option maxRecDepth 20000
open Go.RowKit

theorem str_ne {S : ByteArray} (h : 0 < S.size) : S.toList.isEmpty = false := by
  rw [Lib.toList_data]
  rw [Lib.size_eq] at h
  cases hS : S.data.toList with
  | nil => rw [hS] at h; simp at h
  | cons _ _ => rfl
theorem str_nil {S : ByteArray} (h : S.size = 0) : S = ⟨#[]⟩ := by
  rw [Lib.size_eq] at h
  rw [str_of S _ rfl, List.eq_nil_of_length_eq_zero h]

/-- What Parse answers of a text of at most 400 bytes. -/
def DParse (neg : Bool) (m : List UInt8) (w : World) (e : Ending) (w' : World) : Prop :=
  ∃ (v : Rv) (code : Int), e = .returned (.tuple #[.agg #[.bool v.s, .slice v.A v.n v.c, .slice v.B v.m v.d], .int .i64 code]) ∧ Below w.heap.size w w' ∧
    ((∃ x y, Num m x y ∧ code = 0 ∧ Rt w' w.heap.size v (rn neg x y)) ∨ ((∀ x y, ¬ Num m x y) ∧ code = 2 ∧ v = ⟨false, none, 0, 0, none, 0, 0⟩))

end Go.Proofs.YtdpbceipiappjaaGreatDoor

namespace Go.Proofs.YtdpbceipiappjaaGreatDoor
set_option maxRecDepth 20000
open Go.RowKit

theorem kn1 : fxd (rn false 5 2) (hsc 0) = [50] := by decide +kernel
theorem kn2 : fxd (rn true 1 8) (hsc 2) = [45, 48, 46, 49, 50] := by decide +kernel

end Go.Proofs.YtdpbceipiappjaaGreatDoor

namespace Go.Proofs.YtdpbceipiappjaaGreatDoor
set_option maxRecDepth 20000
open Go.RowKit

theorem rnd_sz {r : Rat} {p k : Nat} (sz : Sz r p) (hk : k ≤ 9) : Sz (rnd r k) (p + 4) := by
  have hp : 0 < p := by
    rcases Nat.eq_zero_or_pos p with h | h
    · subst h; have := sz.den; have h2 := r.den_pos; simp only [Bd, Nat.pow_zero] at this; omega
    · exact h
  have h1 : Bd (un r k) (p + 4) := Bd.ofL (Nat.le_trans (un_len sz k) (by omega))
  have h2 : Bd (10 ^ k) (p + 4) := Bd.ofL (Nat.le_trans (ten_len (k := k) (m := 9) hk) (by omega))
  exact Sz.ofRn rfl h1 h2 (by omega)
theorem rnd_len {r : Rat} {k : Nat} (sz : Sz r 400) (hk : k ≤ 9) {z : Rv} {w : World} {lo : Nat} (h : Rt w lo z (rnd r k)) : z.n ≤ 100000 ∧ z.m ≤ 100000 := by
  have s := rnd_sz sz hk
  rw [h.numLen, h.denLen]
  have := s.num.len
  have := s.den.len
  omega
end Go.Proofs.YtdpbceipiappjaaGreatDoor

namespace Go.Proofs.YtdpbceipiappjaaGreatDoor
set_option maxRecDepth 20000
open Go.RowKit

/-- What Exact answers of a number: its text and whether it has one. -/
def ExW (F : ByteArray) (b : Bool) (r : Rat) : Prop :=
  (b = true ∧ ∃ K, K ≤ 60 ∧ ExAt r.num.natAbs r.den K ∧ F.data.toList = ext r K) ∨ (b = false ∧ F = ⟨#[]⟩ ∧ ∀ j, j ≤ 60 → ¬ r.den ∣ r.num.natAbs * 10 ^ j)
theorem exW_ex (r : Rat) : ∃ F b, ExW F b r := by
  by_cases h : r.den ∣ r.num.natAbs * 10 ^ 60
  · obtain ⟨K, h1, h2⟩ := ex_of h
    obtain ⟨F, hF⟩ := str_data (ext r K)
    exact ⟨F, true, .inl ⟨rfl, K, h1, h2, hF⟩⟩
  · exact ⟨⟨#[]⟩, false, .inr ⟨rfl, rfl, fun j hj hd => h (ex_more hj hd)⟩⟩
theorem dExact_v (F : ByteArray) (b : Bool) (v : Rv) (r : Rat) (w : World) (h : ExW F b r) (hv : Rw w v r 400) (ht : Tb w) :
    Calls Tryz.prog 91 #[.agg #[.bool v.s, .slice v.A v.n v.c, .slice v.B v.m v.d]] w fun e w' => e = .returned (.tuple #[.string F, .bool b]) ∧ Below w.heap.size w w' := by
  rcases h with ⟨rfl, K, hK, hE, hF⟩ | ⟨rfl, rfl, hn⟩
  · exact dExact_yes F v r K w hE hK hF hv ht
  · exact dExact_no v r w (hn 60 (by omega)) hv
theorem rExact_v (F : ByteArray) (b : Bool) (v : Rv) (r : Rat) (w : World) (h : ExW F b r) (hv : Rw w v r 40) :
    Calls Tryz.prog 22 #[.agg #[.bool v.s, .slice v.A v.n v.c, .slice v.B v.m v.d]] w fun e w' => e = .returned (.tuple #[.string F, .bool b]) ∧ Below w.heap.size w w' := by
  rcases h with ⟨rfl, K, hK, hE, hF⟩ | ⟨rfl, rfl, hn⟩
  · refine (rExact_p F v r w (fun L _ hL => by rw [hF, hE.same hL]) hv).mono ?_
    rintro e w' ⟨⟨L, _, _, rfl⟩ | ⟨h1, _⟩, hb⟩
    · exact ⟨rfl, hb⟩
    · exact absurd hE.tells (h1 K hK)
  · refine (rExact_p ⟨#[]⟩ v r w (fun L hL hL2 => absurd hL2.tells (hn L hL)) hv).mono ?_
    rintro e w' ⟨⟨L, h1, h2, _⟩ | ⟨_, rfl⟩, hb⟩
    · exact absurd h2.tells (hn L h1)
    · exact ⟨rfl, hb⟩
end Go.Proofs.YtdpbceipiappjaaGreatDoor

namespace Go.Proofs.YtdpbceipiappjaaGreatDoor
set_option maxRecDepth 20000
open Go.RowKit

theorem rn_same {s : Bool} {x y x' y' : Nat} (hy : y ≠ 0) (hy' : y' ≠ 0) (h : x * y' = x' * y) : rn s x y = rn s x' y' := by
  unfold rn
  have h2 : (x : Int) * (y' : Int) = (x' : Int) * (y : Int) := by rw [← Int.natCast_mul, ← Int.natCast_mul, h]
  rw [Rat.mkRat_eq_iff hy hy']
  cases s
  · simpa using h2
  · simp [Int.neg_mul, h2]
theorem Num.one {m : List UInt8} {x y x' y' : Nat} (h : Num m x y) (h' : Num m x' y') : x = x' ∧ y = y' := by
  have no : ∀ {c : UInt8} {a b : List UInt8}, c.toNat < 48 → m = a ++ c :: b → IsDs m → False := fun hc hm hd => hd.dig.notin hc (by rw [hm]; simp)
  have two : ∀ {a b a' b' : List UInt8}, m = a ++ 46 :: b → m = a' ++ 47 :: b' → IsDs a → IsDs b → False := by
    intro a b a' b' h1 h2 ha hb
    have : (47 : UInt8) ∈ a ++ 46 :: b := by rw [← h1, h2]; simp
    rcases List.mem_append.1 this with h | h
    · exact ha.dig.notin (c := 47) (by decide) h
    · rcases List.mem_cons.1 h with h | h
      · exact absurd h (by decide)
      · exact hb.dig.notin (c := 47) (by decide) h
  cases h with
  | whole h1 =>
    cases h' with
    | whole h2 => exact ⟨rfl, rfl⟩
    | point a b e _ _ => exact (no (by decide) e h1).elim
    | frac a b e _ _ _ => exact (no (by decide) e h1).elim
  | point a b e ha hb =>
    cases h' with
    | whole h2 => exact (no (by decide) e h2).elim
    | point a' b' e' ha' hb' =>
      obtain ⟨rfl, rfl⟩ := cut_same (e.symm.trans e') (ha.dig.notin (by decide)) (ha'.dig.notin (by decide))
      exact ⟨rfl, rfl⟩
    | frac a' b' e' _ _ _ => exact (two e e' ha hb).elim
  | frac a b e ha hb h0 =>
    cases h' with
    | whole h2 => exact (no (by decide) e h2).elim
    | point a' b' e' ha' hb' => exact (two e' e ha' hb').elim
    | frac a' b' e' ha' hb' _ =>
      obtain ⟨rfl, rfl⟩ := cut_same (e.symm.trans e') (ha.dig.notin (by decide)) (ha'.dig.notin (by decide))
      exact ⟨rfl, rfl⟩
theorem sgn_of (b : Bool) (l : List UInt8) (h : l.head? ≠ some 45) : Sgn (sgnd b l) b l := by
  cases b
  · exact ⟨fun h => (by cases h), fun _ => ⟨rfl, h⟩⟩
  · exact ⟨fun _ => rfl, fun h => by cases h⟩
theorem ds_dec (n : Nat) : IsDs (Lib.decDigits n) := ⟨List.length_pos_iff.1 (dec_len_pos n), Dig_dec n⟩
theorem ds_pad {k : Nat} (hk : k ≠ 0) (n : Nat) : IsDs (pad k n) := ⟨List.length_pos_iff.1 (by rw [pad_len]; omega), Dig_pad k n⟩
theorem head_dec (n : Nat) (t : List UInt8) : (Lib.decDigits n ++ t).head? ≠ some 45 := by
  obtain ⟨c, l, h⟩ := List.exists_cons_of_ne_nil (ds_dec n).pos
  rw [h]
  intro e
  simp at e
  subst e
  have := (h ▸ Dig_dec n : Dig (45 :: l)).head
  simp at this
theorem num_fx (n k : Nat) : Num (fx n k) n (10 ^ k) := by
  unfold fx
  split
  · rename_i h
    subst h
    have := Num.whole (ds_dec n)
    rwa [nu_dec] at this
  · rename_i h
    have := Num.point (m := Lib.decDigits (n / 10 ^ k) ++ 46 :: pad k (n % 10 ^ k)) _ _ rfl (ds_dec _) (ds_pad h _)
    rwa [fx_nu, pad_len] at this
theorem head_fx (n k : Nat) : (fx n k).head? ≠ some 45 := by
  unfold fx
  split
  · have := head_dec n []
    rwa [List.append_nil] at this
  · exact head_dec _ _
/-- F is a text of the number r. -/
def Txt (F : ByteArray) (r : Rat) : Prop :=
  F.size ≤ 400 ∧ ∃ (neg : Bool) (M : ByteArray) (x y : Nat), Sgn F.data.toList neg M.data.toList ∧ Num M.data.toList x y ∧ rn neg x y = r
theorem Txt.mk {F : ByteArray} {r : Rat} {b : Bool} {m : List UInt8} {x y : Nat} (hF : F.data.toList = sgnd b m) (hh : m.head? ≠ some 45) (hn : Num m x y) (hr : rn b x y = r) (hl : m.length ≤ 399) : Txt F r := by
  obtain ⟨M, hM⟩ := str_data m
  refine ⟨?_, b, M, x, y, ?_, by rw [hM]; exact hn, hr⟩
  · rw [str_size hF]; have := sgnd_len b m; omega
  · rw [hF, hM]; exact sgn_of b m hh
theorem ten160 {x : Nat} (h : Bd x 16) : x < 10 ^ 160 := by
  have h1 : x < 4294967296 ^ 16 := h
  have h2 : 4294967296 ^ 16 ≤ (10 ^ 10) ^ 16 := Nat.pow_le_pow_left (by omega) _
  rw [← Nat.pow_mul] at h2
  omega
theorem txt_dpr {F : ByteArray} {r : Rat} (hF : F.data.toList = dpr r) (sz : Sz r 16) : Txt F r := by
  have l1 := dec_len_le (k := 160) (by omega) (ten160 sz.num)
  have l2 := dec_len_le (k := 160) (by omega) (ten160 sz.den)
  unfold dpr at hF
  have e1 : sgnd (decide (r.num < 0)) (Lib.decDigits r.num.natAbs) ++ (if r.den = 1 then [] else 47 :: Lib.decDigits r.den) = sgnd (decide (r.num < 0)) (Lib.decDigits r.num.natAbs ++ (if r.den = 1 then [] else 47 :: Lib.decDigits r.den)) := by
    unfold sgnd; split <;> rfl
  rw [e1] at hF
  refine Txt.mk (x := r.num.natAbs) (y := r.den) hF (head_dec _ _) ?_ (rn_self r) ?_
  · split
    · rename_i h
      rw [List.append_nil, h]
      have := Num.whole (ds_dec r.num.natAbs)
      rwa [nu_dec] at this
    · have := Num.frac (m := Lib.decDigits r.num.natAbs ++ 47 :: Lib.decDigits r.den) _ _ rfl (ds_dec _) (ds_dec _) (by rw [nu_dec]; exact r.den_nz)
      rwa [nu_dec, nu_dec] at this
  · split
    · simp; omega
    · simp; omega
theorem txt_ext {F : ByteArray} {r : Rat} (h : ExW F true r) (sz : Sz r 16) : Txt F r := by
  rcases h with ⟨_, K, hK, hE, hF⟩ | ⟨h, _⟩
  · obtain ⟨q, hq⟩ := hE.tells
    have e : r.num.natAbs * 10 ^ K / r.den = q := by rw [hq, Nat.mul_div_cancel_left _ r.den_pos]
    unfold ext at hF
    rw [e] at hF
    refine Txt.mk hF (head_fx _ _) (num_fx _ _) ?_ ?_
    · rw [rn_same (x' := r.num.natAbs) (y' := r.den) (by have := ten_pos K; omega) r.den_nz (by rw [hq, Nat.mul_comm])]
      exact rn_self r
    · have hx := ten160 sz.num
      have h2 : q < 10 ^ (160 + K) := by
        have h3 : q ≤ r.num.natAbs * 10 ^ K := by rw [hq]; exact Nat.le_mul_of_pos_left _ r.den_pos
        have h4 : r.num.natAbs * 10 ^ K < 10 ^ 160 * 10 ^ K := Nat.mul_lt_mul_of_pos_right hx (ten_pos K)
        rw [Nat.pow_add]; omega
      have := fx_len (k := K) (j := 160 + K) (by omega) h2
      omega
  · cases h
theorem txt_fxd {F : ByteArray} {r : Rat} {k : Nat} (hF : F.data.toList = fxd r k) (hk : k ≤ 9) (sz : Sz r 16) : Txt F (rnd r k) := by
  unfold fxd at hF
  refine Txt.mk hF (head_fx _ _) (num_fx _ _) ?_ ?_
  · unfold rnd
    by_cases h : un r k = 0
    · rw [rn_zero (.inl h), rn_zero (.inl h)]
    · rw [decide_eq_true h, Bool.and_true]
  · have hu : (lim (un r k)).length ≤ 20 := by have := un_len sz k; omega
    have h1 : un r k < 4294967296 ^ 20 := Bd.ofL hu
    have h2 : 4294967296 ^ 20 ≤ (10 ^ 10) ^ 20 := Nat.pow_le_pow_left (by omega) _
    rw [← Nat.pow_mul] at h2
    have := fx_len (k := k) (j := 200) (by omega) (show un r k < 10 ^ 200 by omega)
    omega
end Go.Proofs.YtdpbceipiappjaaGreatDoor

namespace Go.Proofs.YtdpbceipiappjaaGreatDoor
set_option maxRecDepth 20000
open Go.RowKit

theorem un_int {r : Rat} (h : r.den = 1) (k : Nat) : un r k = r.num.natAbs * 10 ^ k := by
  unfold un
  rw [h, Nat.mod_one, Nat.div_one, if_neg (by omega)]
theorem int_dpr {r : Rat} (h : r.den = 1) : dpr r = sgnd (decide (r.num < 0)) (Lib.decDigits r.num.natAbs) := by
  unfold dpr; rw [if_pos h, List.append_nil]
theorem int_fxd {r : Rat} (h : r.den = 1) : fxd r 0 = sgnd (decide (r.num < 0)) (Lib.decDigits r.num.natAbs) := by
  unfold fxd
  rw [un_int h, Nat.pow_zero, Nat.mul_one]
  unfold fx
  rw [if_pos rfl]
  by_cases h1 : r.num < 0
  · rw [decide_eq_true h1, decide_eq_true (show r.num.natAbs ≠ 0 by omega)]; rfl
  · rw [decide_eq_false h1]; rfl
theorem int_exW {r : Rat} {F : ByteArray} (h : r.den = 1) (hF : F.data.toList = sgnd (decide (r.num < 0)) (Lib.decDigits r.num.natAbs)) : ExW F true r := by
  refine .inl ⟨rfl, 0, by omega, ⟨by rw [h]; exact Nat.one_dvd _, fun j hj => absurd hj (by omega)⟩, ?_⟩
  rw [hF]
  unfold ext fx
  rw [if_pos rfl, h, Nat.pow_zero, Nat.mul_one, Nat.div_one]
theorem rnd_int {r : Rat} (h : r.den = 1) (k : Nat) : rnd r k = r := by
  unfold rnd
  rw [un_int h]
  refine Eq.trans (rn_same (x' := r.num.natAbs) (y' := r.den) (by have := ten_pos k; omega) r.den_nz ?_) (rn_self r)
  rw [h, Nat.mul_one]
theorem rn_one {s : Bool} {x : Nat} : (rn s x 1).den = 1 ∧ (rn s x 1).num.natAbs = x := by
  rw [rn_den (by omega), rn_abs (by omega), Nat.gcd_one_right, Nat.div_one, Nat.div_one]; exact ⟨rfl, rfl⟩
end Go.Proofs.YtdpbceipiappjaaGreatDoor

namespace Go.Proofs.YtdpbceipiappjaaGreatDoor
set_option maxRecDepth 20000
open Go.RowKit

theorem RunAt.at {S : ByteArray} {k j : Nat} (h : RunAt S.data.toList k) (hj : j < k) (hl : j < S.size) : 48 ≤ S[j].toNat ∧ S[j].toNat ≤ 57 := by
  have e := byte_eq S j hl
  refine h.dig _ (List.mem_of_getElem? (i := j) ?_)
  rw [List.getElem?_take_of_lt hj]; exact e
theorem RunAt.no {S : ByteArray} {k : Nat} (h : RunAt S.data.toList k) (hl : k < S.size) : ¬ (48 ≤ S[k].toNat ∧ S[k].toNat ≤ 57) := by
  rcases h.stop with h1 | ⟨c, h1, h2⟩
  · rw [← Lib.size_eq] at h1; omega
  · have e := byte_eq S k hl
    rw [e] at h1
    injection h1 with h1
    rw [h1]; exact h2

end Go.Proofs.YtdpbceipiappjaaGreatDoor
