/-
  Texts of numbers without a sign: whole ones, with a point, fractions. No program.
  dec's Parse, the program's way.
  dec's Parse, the program's way: a point; a text without its sign; the whole.
  The known answer that the laws of dec ask for: halves to the even one.
  How great a rounded number is.
  Exact, both ways, as one answer.
  The texts that Print, Exact and Fixed write are read as their numbers.
  Whole numbers: their texts, their roundings. No program.
-/
import Derived.Test.YtcmkgoikmleanaaGreatDoorMTx
import Derived.Test.YtcmkgoikmleanaaGreatDoorMDb
import Derived.Test.YtcmkgoikmleanaaGreatDoorMDa
namespace Go.Proofs.YtcmkgoikmleanaaGreatDoor
set_option maxRecDepth 20000

/-- At least one digit, and no other sign. -/
structure IsDs (l : List UInt8) : Prop where
  pos : l ≠ []
  dig : Dig l
/-- A text without its sign that is a number x by y. -/
inductive Num (m : List UInt8) : Nat → Nat → Prop
  | whole : IsDs m → Num m (nu m) 1
  | point (a b : List UInt8) : m = a ++ 46 :: b → IsDs a → IsDs b → Num m (nu (a ++ b)) (10 ^ b.length)
  | frac (a b : List UInt8) : m = a ++ 47 :: b → IsDs a → IsDs b → nu b ≠ 0 → Num m (nu a) (nu b)
theorem Num.den {m : List UInt8} {x y : Nat} (h : Num m x y) : y ≠ 0 := by
  cases h with
  | whole _ => omega
  | point a b _ _ _ => have := ten_pos b.length; omega
  | frac a b _ _ _ h => exact h
theorem Dig.notin {l : List UInt8} (h : Dig l) {c : UInt8} (hc : c.toNat < 48) : c ∉ l := fun hm => by have := h c hm; omega
/-- A text is cut in one way at the first of a sign. -/
theorem cut_same {c : UInt8} {a b a' b' : List UInt8} (h : a ++ c :: b = a' ++ c :: b') (ha : c ∉ a) (ha' : c ∉ a') : a = a' ∧ b = b' := by
  induction a generalizing a' with
  | nil =>
    cases a' with
    | nil => simpa using h
    | cons d t =>
      simp at h
      exact absurd (h.1 ▸ List.mem_cons_self ..) ha'
  | cons d t ih =>
    cases a' with
    | nil =>
      simp at h
      exact absurd (h.1 ▸ List.mem_cons_self ..) ha
    | cons d' t' =>
      simp at h
      obtain ⟨rfl, h⟩ := h
      obtain ⟨rfl, h2⟩ := ih h (fun hm => ha (List.mem_cons_of_mem _ hm)) (fun hm => ha' (List.mem_cons_of_mem _ hm))
      exact ⟨rfl, h2⟩
theorem num_no_frac {m a b : List UInt8} (hm : m = a ++ 47 :: b) (ha : (47 : UInt8) ∉ a) (h : ¬ (IsDs a ∧ IsDs b ∧ nu b ≠ 0)) : ∀ x y, ¬ Num m x y := by
  rintro x y (h1 | ⟨a2, b2, h1, h2, h3⟩ | ⟨a2, b2, h1, h2, h3, h4⟩)
  · exact h1.dig.notin (c := 47) (by decide) (by rw [hm]; simp)
  · have : (47 : UInt8) ∈ a2 ++ 46 :: b2 := by rw [← h1, hm]; simp
    rcases List.mem_append.1 this with h | h
    · exact h2.dig.notin (c := 47) (by decide) h
    · rcases List.mem_cons.1 h with h | h
      · exact absurd h (by decide)
      · exact h3.dig.notin (c := 47) (by decide) h
  · obtain ⟨rfl, rfl⟩ := cut_same (hm.symm.trans h1) ha (h2.dig.notin (by decide))
    exact h ⟨h2, h3, h4⟩
theorem num_no_point {m a b : List UInt8} (hm : m = a ++ 46 :: b) (hs : (47 : UInt8) ∉ m) (ha : (46 : UInt8) ∉ a) (h : ¬ (IsDs a ∧ IsDs b)) : ∀ x y, ¬ Num m x y := by
  rintro x y (h1 | ⟨a2, b2, h1, h2, h3⟩ | ⟨a2, b2, h1, h2, h3, h4⟩)
  · exact h1.dig.notin (c := 46) (by decide) (by rw [hm]; simp)
  · obtain ⟨rfl, rfl⟩ := cut_same (hm.symm.trans h1) ha (h2.dig.notin (by decide))
    exact h ⟨h2, h3⟩
  · exact hs (by rw [h1]; simp)
theorem num_no_whole {m : List UInt8} (hs : (47 : UInt8) ∉ m) (hp : (46 : UInt8) ∉ m) (h : ¬ IsDs m) : ∀ x y, ¬ Num m x y := by
  rintro x y (h1 | ⟨a2, b2, h1, h2, h3⟩ | ⟨a2, b2, h1, h2, h3, h4⟩)
  · exact h h1
  · exact hp (by rw [h1]; simp)
  · exact hs (by rw [h1]; simp)
theorem IsDs.of {l : List UInt8} (h : IsNum l) : IsDs l := ⟨by have := h.pos; intro e; subst e; simp at this, h.dig⟩
theorem IsDs.num {l : List UInt8} (h : IsDs l) (hl : l.length ≤ 400) : IsNum l := ⟨List.length_pos_iff.2 h.pos, hl, h.dig⟩
/-- How many digits stand at the beginning. -/
structure RunAt (l : List UInt8) (k : Nat) : Prop where
  le : k ≤ l.length
  dig : Dig (l.take k)
  stop : k = l.length ∨ ∃ c, l[k]? = some c ∧ ¬ (48 ≤ c.toNat ∧ c.toNat ≤ 57)
theorem run_ex : ∀ l : List UInt8, ∃ k, RunAt l k := by
  intro l
  induction l with
  | nil => exact ⟨0, Nat.le_refl _, Dig.nil, .inl rfl⟩
  | cons c l ih =>
    by_cases h : 48 ≤ c.toNat ∧ c.toNat ≤ 57
    · obtain ⟨k, h1, h2, h3⟩ := ih
      refine ⟨k + 1, by simpa using h1, ?_, ?_⟩
      · rw [List.take_succ_cons]
        exact (Dig.one h.1 h.2).app h2
      · simpa using h3
    · exact ⟨0, Nat.zero_le _, Dig.nil, .inr ⟨c, rfl, h⟩⟩
/-- What the document's Parse sees behind its first digits. -/
theorem RunAt.split {l : List UInt8} {k : Nat} (h : RunAt l k) (hk : k ≠ l.length) : ∃ c d, l = l.take k ++ c :: d ∧ l.drop k = c :: d ∧ ¬ (48 ≤ c.toNat ∧ c.toNat ≤ 57) := by
  have hlt : k < l.length := by have := h.le; omega
  rcases h.stop with h1 | ⟨c, h1, h2⟩
  · exact absurd h1 hk
  · have e : l.drop k = c :: l.drop (k + 1) := by
      rw [List.drop_eq_getElem_cons hlt]
      rw [List.getElem?_eq_getElem hlt] at h1
      injection h1 with h1
      rw [h1]
    exact ⟨c, _, by rw [← e, List.take_append_drop], e, h2⟩
theorem RunAt.full {l : List UInt8} {k : Nat} (h : RunAt l k) (hk : k = l.length) : Dig l := by
  have := h.dig
  rw [hk, List.take_length] at this
  exact this
theorem RunAt.all {l : List UInt8} {k : Nat} (h : RunAt l k) (hd : Dig l) : k = l.length := by
  rcases h.stop with h1 | ⟨c, h1, h2⟩
  · exact h1
  · exact absurd (hd c (List.mem_of_getElem? h1)) h2
theorem num_no_start {m : List UInt8} (h : RunAt m 0) : ∀ x y, ¬ Num m x y := by
  have key : ∀ a t : List UInt8, IsDs a → m = a ++ t → False := by
    intro a t ha hm
    obtain ⟨c, a', rfl⟩ := List.exists_cons_of_ne_nil ha.pos
    rcases h.stop with h1 | ⟨c', h1, h2⟩
    · rw [hm] at h1; simp at h1
    · rw [hm] at h1
      simp at h1
      subst h1
      exact h2 ha.dig.head
  rintro x y (h1 | ⟨a2, b2, h1, h2, h3⟩ | ⟨a2, b2, h1, h2, h3, h4⟩)
  · exact key m [] h1 (by simp)
  · exact key _ _ h2 h1
  · exact key _ _ h2 h1
/-- Behind digits, a sign that is none. -/
theorem num_no_sign {m a d : List UInt8} {c : UInt8} (hm : m = a ++ c :: d) (ha : Dig a) (hc : ¬ (48 ≤ c.toNat ∧ c.toNat ≤ 57)) (h : ¬ (c = 46 ∧ IsDs a ∧ IsDs d)) (h' : ¬ (c = 47 ∧ IsDs a ∧ IsDs d ∧ nu d ≠ 0)) : ∀ x y, ¬ Num m x y := by
  have first : ∀ a2 b2 : List UInt8, ∀ c2 : UInt8, Dig a2 → ¬ (48 ≤ c2.toNat ∧ c2.toNat ≤ 57) → a ++ c :: d = a2 ++ c2 :: b2 → a = a2 ∧ c = c2 ∧ d = b2 := by
    intro a2 b2 c2 h2 hc2
    clear hm h h'
    induction a generalizing a2 with
    | nil =>
      intro e
      cases a2 with
      | nil => simp at e; exact ⟨rfl, e.1, e.2⟩
      | cons e1 t => simp at e; exact absurd (e.1 ▸ h2.head) hc
    | cons e1 t ih =>
      intro e
      cases a2 with
      | nil => simp at e; exact absurd (e.1 ▸ ha.head) hc2
      | cons e2 t2 =>
        simp at e
        obtain ⟨rfl, e⟩ := e
        obtain ⟨rfl, h4, h5⟩ := ih ha.tail t2 h2.tail e
        exact ⟨rfl, h4, h5⟩
  rintro x y (h1 | ⟨a2, b2, h1, h2, h3⟩ | ⟨a2, b2, h1, h2, h3, h4⟩)
  · exact hc (h1.dig c (by rw [hm]; simp))
  · obtain ⟨rfl, rfl, rfl⟩ := first _ _ _ h2.dig (by decide) (hm.symm.trans h1)
    exact h ⟨rfl, h2, h3⟩
  · obtain ⟨rfl, rfl, rfl⟩ := first _ _ _ h2.dig (by decide) (hm.symm.trans h1)
    exact h' ⟨rfl, h2, h3, h4⟩
/-- How great the parts are. -/
theorem Num.len {m : List UInt8} {x y : Nat} (h : Num m x y) (hl : m.length ≤ 400) : (lim x).length ≤ 50 ∧ (lim y).length ≤ 50 := by
  have one : (lim 1).length ≤ 50 := by have := lim_len_lt (n := 1) (k := 1) (by omega); omega
  cases h with
  | whole h => exact ⟨nu_len' h.dig hl, one⟩
  | point a b hm ha hb =>
    have hab : (a ++ b).length ≤ 400 := by rw [hm] at hl; simp at hl ⊢; omega
    refine ⟨nu_len' (ha.dig.app hb.dig) hab, ?_⟩
    refine lim_len_lt ?_
    obtain ⟨q, hq⟩ : ∃ q : Nat, q = 50 := ⟨_, rfl⟩
    rw [← hq]
    have h3 : 10 ^ b.length ≤ 10 ^ (8 * q) := Nat.pow_le_pow_right (by omega) (by simp at hab; omega)
    have h4 : 10 ^ (8 * q) < 4294967296 ^ q := by
      rw [Nat.pow_mul]; exact Nat.pow_lt_pow_left (by omega) (by omega)
    omega
  | frac a b hm ha hb h0 =>
    have h1 : a.length ≤ 400 ∧ b.length ≤ 400 := by rw [hm] at hl; simp at hl; omega
    exact ⟨nu_len' ha.dig h1.1, nu_len' hb.dig h1.2⟩
/-- A text's sign, and what is behind it. -/
structure Sgn (l : List UInt8) (neg : Bool) (m : List UInt8) : Prop where
  yes : neg = true → l = 45 :: m
  no : neg = false → l = m ∧ l.head? ≠ some 45
theorem sgn_ex (l : List UInt8) : ∃ neg m, Sgn l neg m := by
  cases l with
  | nil => exact ⟨false, [], (fun h => by cases h), (fun _ => ⟨rfl, by simp⟩)⟩
  | cons c t =>
    by_cases h : c = 45
    · subst h; exact ⟨true, t, (fun _ => rfl), (fun h => by cases h)⟩
    · exact ⟨false, c :: t, (fun h => by cases h), (fun _ => ⟨rfl, by simpa using h⟩)⟩
end Go.Proofs.YtcmkgoikmleanaaGreatDoor

namespace Go.Proofs.YtcmkgoikmleanaaGreatDoor
set_option maxRecDepth 20000
open Go.RowKit

/-- The library's variable holds some int. -/
def Mx (w : World) : Prop := ∃ m : Int, w.cell? ⟨3, 0, none⟩ = some (.int .i64 m)
theorem Mx.below {w w' : World} (h : Mx w) (hb : Below w.heap.size w w') : Mx w' := by
  obtain ⟨m, hm⟩ := h
  refine ⟨m, (hb.cell (p := ⟨3, 0, none⟩) ?_).trans hm⟩
  rcases Nat.lt_or_ge 3 w.heap.size with h1 | h1
  · exact h1
  · have : w.heap[3]? = none := Array.getElem?_eq_none h1
    simp [World.cell?, this] at hm

theorem Cut_s (S A B : ByteArray) (c : UInt8) (f : Bool) (w : World) (h : Lib.cut S.data.toList [c] = (A.data.toList, B.data.toList, f)) (hs : S.size ≤ 1000000) (hm : Mx w) :
    Calls Tryz.prog 181 #[.string S, .string ⟨#[c]⟩] w fun e w' => e = .returned (.tuple #[.string A, .string B, .bool f]) ∧ Below w.heap.size w w' := by
  obtain ⟨m, hm⟩ := hm
  refine (Tryz.strings_Cut S ⟨#[c]⟩ m w (by omega) hm).mono ?_
  rintro e w' ⟨rfl, n, rfl⟩
  have e1 : (⟨#[c]⟩ : ByteArray).data.toList = [c] := rfl
  refine ⟨by rw [e1, h], below_drewN' _ _ _⟩
theorem CutPrefix_s (S M : ByteArray) (neg : Bool) (w : World) (h : Sgn S.data.toList neg M.data.toList) :
    Calls Tryz.prog 162 #[.string S, .string ⟨#[45]⟩] w fun e w' => e = .returned (.tuple #[.string M, .bool neg]) ∧ w = w' := by
  refine (Tryz.strings_CutPrefix S ⟨#[45]⟩ w).mono ?_
  rintro e w' ⟨rfl, rfl⟩
  have e1 : (⟨#[45]⟩ : ByteArray).data.toList = [45] := rfl
  rw [e1]
  cases neg with
  | true =>
    have hl := h.yes rfl
    have h1 : Lib.hasPrefix S.data.toList [45] = true := by rw [hl]; simp [Lib.hasPrefix, List.isPrefixOf]
    have h2 : Lib.trimPrefix S.data.toList [45] = M.data.toList := by unfold Lib.trimPrefix; rw [if_pos h1, hl]; rfl
    exact ⟨by rw [h1, h2], rfl⟩
  | false =>
    obtain ⟨hl, hn⟩ := h.no rfl
    have h1 : Lib.hasPrefix S.data.toList [45] = false := by
      rw [Bool.eq_false_iff]
      intro h
      cases hS : S.data.toList with
      | nil => rw [hS] at h; simp [Lib.hasPrefix, List.isPrefixOf] at h
      | cons c t =>
        rw [hS] at h hn
        simp [Lib.hasPrefix, List.isPrefixOf] at h
        subst h
        simp at hn
    have h2 : Lib.trimPrefix S.data.toList [45] = M.data.toList := by unfold Lib.trimPrefix; rw [h1, ← hl]; rfl
    exact ⟨by rw [h1, h2], rfl⟩

/-- What a part of Parse answers: two rows and whether it is a number. -/
def PSz (m : List UInt8) (w : World) (e : Ending) (w' : World) : Prop :=
  ∃ v1 v2 b, e = .returned (.tuple #[v1, v2, .bool b]) ∧ Below w.heap.size w w' ∧ (b = true → ∃ x y A c B d, Num m x y ∧ v1 = .slice A (lim x).length c ∧ v2 = .slice B (lim y).length d ∧ (lim x).length ≤ c ∧ (lim y).length ≤ d ∧ Row w' 0 A (lim x).length (lim x) ∧ Row w' 0 B (lim y).length (lim y)) ∧ (b = false → ∀ x y, ¬ Num m x y)
theorem PSz.bad {m : List UInt8} {w w' : World} {v1 v2 : Value} (h : ∀ x y, ¬ Num m x y) (hb : Below w.heap.size w w') : PSz m w (.returned (.tuple #[v1, v2, .bool false])) w' :=
  ⟨v1, v2, false, rfl, hb, (fun h => by cases h), fun _ => h⟩
theorem PSz.good {m : List UInt8} {w w' : World} {x y c d : Nat} {A B : Option Addr} (h : Num m x y) (hb : Below w.heap.size w w') (hc : (lim x).length ≤ c) (hd : (lim y).length ≤ d) (h1 : Row w' 0 A (lim x).length (lim x)) (h2 : Row w' 0 B (lim y).length (lim y)) :
    PSz m w (.returned (.tuple #[.slice A (lim x).length c, .slice B (lim y).length d, .bool true])) w' :=
  ⟨_, _, true, rfl, hb, (fun _ => ⟨x, y, A, c, B, d, h, rfl, rfl, hc, hd, h1, h2⟩), fun h => by cases h⟩

set_option maxHeartbeats 4000000 in
theorem parseFraction_p (m : List UInt8) (S T : ByteArray) (w : World) (hm : m = S.data.toList ++ 47 :: T.data.toList) (hs : (47 : UInt8) ∉ S.data.toList) (h1 : S.size ≤ 400) (h2 : T.size ≤ 400) :
    Calls Tryz.prog 182 #[.string S, .string T] w (PSz m w) := by
  have hNo := Lib.hid (num_no_frac hm hs)
  have HM := Lib.hid hm
  have hsl : S.data.toList.length ≤ 400 := by rw [← Lib.size_eq]; exact h1
  have htl : T.data.toList.length ≤ 400 := by rw [← Lib.size_eq]; exact h2
  clear hm hs
  by_cases n1 : IsNum S.data.toList
  · have N1 := Lib.hid n1
    by_cases n2 : IsNum T.data.toList
    · have N2 := Lib.hid n2
      clear n1 n2
      go_enter Tryz.func182, Tryz.ntmps182
      go_wp2_with fail
      refine (Parse_yes S _ N1.out).mono ?_
      rintro e w1 ⟨A, c, rfl, ho, hb⟩
      have hr := ho.rowz
      have hc := ho.capLe
      have HB := Lib.hid hb
      have hs1 := hb.size
      clear ho hb
      go_wp2_with fail
      refine (Parse_yes T _ N2.out).mono ?_
      rintro e w2 ⟨B, d, rfl, ho, hb⟩
      replace hr := hr.below hb
      have hr2 := ho.rowz
      have hd := ho.capLe
      have HB2 := Lib.hid (HB.out.trans (hb.mono hs1))
      have hl2 := nu_len' N2.out.dig htl
      clear ho hb HB
      obtain ⟨b, hb⟩ : ∃ b, decide (nu T.data.toList = 0) = b := ⟨_, rfl⟩
      have HBB := Lib.hid hb
      clear hb
      go_wp2_with fail
      refine (disNought_any B _ d _ _ b _ (val_lim _) (by omega) hd hr2 HBB.out).mono ?_
      rintro e w3 ⟨rfl, rfl⟩
      have HF : Hid (PSz m w (.returned (.tuple #[.slice A (lim (nu S.data.toList)).length c, .slice B (lim (nu T.data.toList)).length d, .bool (!b)])) w2) := by
        show PSz _ _ _ _
        cases b with
        | true =>
          refine PSz.bad (hNo.out ?_) HB2.out
          rintro ⟨_, _, h⟩
          exact h (of_decide_eq_true HBB.out)
        | false => exact PSz.good (.frac _ _ HM.out (.of N1.out) (.of N2.out) (of_decide_eq_false HBB.out)) HB2.out hc hd hr hr2
      clear hNo
      cases b
      · go_wp2
        go_ret3
        exact HF.out
      · go_wp2
        go_ret3
        exact HF.out
    · have N2 := Lib.hid n2
      have HNN : Hid (∀ x y, ¬ Num m x y) := hNo.out fun h => n2 (h.2.1.num htl)
      clear n1 n2 hNo
      go_enter Tryz.func182, Tryz.ntmps182
      go_wp2_with fail
      refine (Parse_yes S _ N1.out).mono ?_
      rintro e w1 ⟨A, c, rfl, ho, hb⟩
      have HB := Lib.hid hb
      clear ho hb
      go_wp2_with fail
      refine (Parse_no T _ (by omega) N2.out).mono ?_
      rintro e w2 ⟨rfl, rfl⟩
      go_wp2
      go_ret3
      exact PSz.bad HNN.out HB.out
  · have N1 := Lib.hid n1
    have HNN : Hid (∀ x y, ¬ Num m x y) := hNo.out fun h => n1 (h.1.num hsl)
    have fin : Hid (∀ w1 v, Below w.heap.size w w1 → PSz m w (.returned (.tuple #[.slice none 0 0, v, .bool false])) w1) := fun w1 v hb => PSz.bad HNN.out hb
    by_cases n2 : IsNum T.data.toList
    · have N2 := Lib.hid n2
      clear n1 n2 hNo HNN
      go_enter Tryz.func182, Tryz.ntmps182
      go_wp2_with fail
      refine (Parse_no S _ (by omega) N1.out).mono ?_
      rintro e w1 ⟨rfl, rfl⟩
      go_wp2_with fail
      refine (Parse_yes T _ N2.out).mono ?_
      rintro e w2 ⟨B, d, rfl, ho, hb⟩
      have HB := Lib.hid hb
      clear ho hb
      go_wp2
      go_ret3
      exact fin.out _ _ HB.out
    · have N2 := Lib.hid n2
      clear n1 n2 hNo HNN
      go_enter Tryz.func182, Tryz.ntmps182
      go_wp2_with fail
      refine (Parse_no S _ (by omega) N1.out).mono ?_
      rintro e w1 ⟨rfl, rfl⟩
      go_wp2_with fail
      refine (Parse_no T _ (by omega) N2.out).mono ?_
      rintro e w2 ⟨rfl, rfl⟩
      go_wp2
      go_ret3
      exact fin.out _ _ (Below.refl _ _)
end Go.Proofs.YtcmkgoikmleanaaGreatDoor

namespace Go.Proofs.YtcmkgoikmleanaaGreatDoor
set_option maxRecDepth 20000
open Go.RowKit

theorem str_ne {S : ByteArray} (h : 0 < S.size) : S.toList.isEmpty = false := by
  rw [Lib.toList_data]
  rw [Lib.size_eq] at h
  cases hS : S.data.toList with
  | nil => rw [hS] at h; simp at h
  | cons _ _ => rfl
theorem str_nil {S : ByteArray} (h : S.size = 0) : S = ⟨#[]⟩ := by
  rw [Lib.size_eq] at h
  rw [str_of S _ rfl, List.eq_nil_of_length_eq_zero h]

set_option maxHeartbeats 4000000 in
theorem parsePoint_p (m : List UInt8) (S T : ByteArray) (w : World) (hm : m = S.data.toList ++ 46 :: T.data.toList) (h47 : (47 : UInt8) ∉ m) (hs : (46 : UInt8) ∉ S.data.toList) (h1 : S.size + T.size ≤ 400) :
    Calls Tryz.prog 183 #[.string S, .string T] w (PSz m w) := by
  have hNo := Lib.hid (num_no_point hm h47 hs)
  have HM := Lib.hid hm
  clear hm hs h47
  by_cases n1 : S.size = 0
  · have HNN : Hid (∀ x y, ¬ Num m x y) := hNo.out fun h => h.1.pos (List.eq_nil_of_length_eq_zero (by rw [← Lib.size_eq]; exact n1))
    have e := str_nil n1
    subst e
    clear n1 hNo HM
    go_enter Tryz.func183, Tryz.ntmps183
    go_wp2
    go_ret3
    exact PSz.bad HNN.out (Below.refl _ _)
  · have q1 := str_ne (S := S) (by omega)
    by_cases n2 : T.size = 0
    · have HNN : Hid (∀ x y, ¬ Num m x y) := hNo.out fun h => h.2.pos (List.eq_nil_of_length_eq_zero (by rw [← Lib.size_eq]; exact n2))
      have e := str_nil n2
      subst e
      clear n2 hNo HM
      go_enter Tryz.func183, Tryz.ntmps183
      go_wp2
      go_ret3
      exact PSz.bad HNN.out (Below.refl _ _)
    · have q2 := str_ne (S := T) (by omega)
      obtain ⟨U, hU⟩ : ∃ U : ByteArray, S ++ T = U := ⟨_, rfl⟩
      have hUd : U.data.toList = S.data.toList ++ T.data.toList := by rw [← hU, app_data]
      have hUs : U.size ≤ 400 := by rw [← hU, ByteArray.size_append]; exact h1
      have HU := Lib.hid hU
      have HUD := Lib.hid hUd
      have hsz : (S.size : Int) + (T.size : Int) ≤ 400 := by omega
      have n1' : S.data.toList ≠ [] := fun h => n1 (by rw [Lib.size_eq, h]; rfl)
      have n2' : T.data.toList ≠ [] := fun h => n2 (by rw [Lib.size_eq, h]; rfl)
      have N1 := Lib.hid n1'
      have N2 := Lib.hid n2'
      have hts : T.size ≤ 400 := by omega
      clear hUd n1 n2 n1' n2' hU
      have hU := HU.out
      by_cases n3 : IsNum U.data.toList
      · have N3 := Lib.hid n3
        have HN : Hid (Num m (nu U.data.toList) (10 ^ T.size)) := by
          have hd := n3.dig
          rw [HUD.out] at hd
          show Num _ _ _
          rw [HUD.out, Lib.size_eq]
          exact .point _ _ HM.out ⟨N1.out, hd.left⟩ ⟨N2.out, hd.right⟩
        clear n3 hNo HM HUD
        go_enter Tryz.func183, Tryz.ntmps183
        go_wp2_with fail
        clear hU
        refine (Parse_yes U _ N3.out).mono ?_
        rintro e w1 ⟨A, c, rfl, ho, hb⟩
        have hr := ho.rowz
        have hc := ho.capLe
        have HB := Lib.hid hb
        have hs1 := hb.size
        clear ho hb
        go_wp2_with fail
        refine (powerOfTen_any T.size _ (by omega)).mono ?_
        rintro e w2 ⟨B, d, rfl, ho, hb⟩
        have HF : Hid (PSz m w (.returned (.tuple #[.slice A (lim (nu U.data.toList)).length c, .slice B (lim (10 ^ T.size)).length d, .bool true])) w2) :=
          PSz.good HN.out (HB.out.trans (hb.mono hs1)) hc ho.capLe (hr.below hb) ho.rowz
        clear ho hb hr
        go_wp2
        go_ret3
        exact HF.out
      · have N3 := Lib.hid n3
        have HNN : Hid (∀ x y, ¬ Num m x y) := hNo.out fun h => n3 (by
          rw [HUD.out]
          exact ⟨by rw [List.length_append]; have := List.length_pos_iff.2 h.1.pos; omega, by rw [← HUD.out, ← Lib.size_eq]; exact hUs, h.1.dig.app h.2.dig⟩)
        clear n3 hNo HM HUD
        go_enter Tryz.func183, Tryz.ntmps183
        go_wp2_with fail
        clear hU
        refine (Parse_no U _ (by omega) N3.out).mono ?_
        rintro e w1 ⟨rfl, rfl⟩
        go_wp2_with fail
        refine (powerOfTen_any T.size _ (by omega)).mono ?_
        rintro e w2 ⟨B, d, rfl, ho, hb⟩
        have HF : Hid (PSz m w (.returned (.tuple #[.slice none 0 0, .slice B (lim (10 ^ T.size)).length d, .bool false])) w2) := PSz.bad HNN.out hb
        clear ho hb
        go_wp2
        go_ret3
        exact HF.out

set_option maxHeartbeats 4000000 in
theorem parseSize_p (S : ByteArray) (w : World) (h1 : S.size ≤ 400) (hx : Mx w) :
    Calls Tryz.prog 163 #[.string S] w (PSz S.data.toList w) := by
  have HMX := Lib.hid hx
  have one : (lim 1).length ≤ 100000 := by have := lim_len_lt (n := 1) (k := 1) (by omega); omega
  clear hx
  rcases cut_one 47 S.data.toList with ⟨c1, c2⟩ | ⟨a, b, c1, c2, c3⟩
  · have C1 := Lib.hid c1
    have C2 : Hid (Lib.cut S.data.toList [47] = (S.data.toList, (⟨#[]⟩ : ByteArray).data.toList, false)) := c2
    clear c1 c2
    rcases cut_one 46 S.data.toList with ⟨d1, d2⟩ | ⟨a, b, d1, d2, d3⟩
    · have D1 := Lib.hid d1
      have D2 : Hid (Lib.cut S.data.toList [46] = (S.data.toList, (⟨#[]⟩ : ByteArray).data.toList, false)) := d2
      clear d1 d2
      have pre : Hid (∀ P : Ending → World → Prop, (∀ W, Below w.heap.size w W → Calls Tryz.prog 184 #[.string S] W (fun e w' => ∃ A c b, e = .returned (.tuple #[.slice A (if b then (lim (nu S.data.toList)).length else 0) c, .bool b]) ∧ Below W.heap.size W w' ∧ (b = true → IsNum S.data.toList ∧ (lim (nu S.data.toList)).length ≤ c ∧ Row w' 0 A (lim (nu S.data.toList)).length (lim (nu S.data.toList))) ∧ (b = false → ¬ IsNum S.data.toList))) → True) := fun _ _ => trivial
      clear pre
      by_cases n : IsNum S.data.toList
      · have N := Lib.hid n
        clear n
        go_enter Tryz.func163, Tryz.ntmps163
        go_wp2_with fail
        refine (Cut_s S S ⟨#[]⟩ 47 false _ C2.out (by omega) HMX.out).mono ?_
        rintro e w1 ⟨rfl, hb⟩
        have HM1 := Lib.hid (HMX.out.below hb)
        have HB1 := Lib.hid hb
        have hs1 := hb.size
        clear hb
        go_wp2_with fail
        refine (Cut_s S S ⟨#[]⟩ 46 false _ D2.out (by omega) HM1.out).mono ?_
        rintro e w2 ⟨rfl, hb⟩
        have HB2 := Lib.hid (HB1.out.trans (hb.mono hs1))
        have hs2 := HB2.out.size
        clear hb
        go_wp2_with fail
        refine (Parse_yes S _ N.out).mono ?_
        rintro e w3 ⟨A, c, rfl, ho, hb⟩
        have HB3 := Lib.hid (HB2.out.trans (hb.mono hs2))
        have hs3 := HB3.out.size
        have hr := ho.rowz
        have hc := ho.capLe
        clear hb ho
        go_wp2_with fail
        refine (Of_any 1 _ (by omega)).mono ?_
        rintro e w4 ⟨B, d, rfl, ho, hb⟩
        have HF : Hid (PSz S.data.toList w (.returned (.tuple #[.slice A (lim (nu S.data.toList)).length c, .slice B (lim 1).length d, .bool true])) w4) :=
          PSz.good (.whole (.of N.out)) (HB3.out.trans (hb.mono hs3)) hc ho.capLe (hr.below hb) ho.rowz
        clear ho hb hr
        go_wp2
        go_ret3
        exact HF.out
      · have N := Lib.hid n
        have HNN : Hid (∀ x y, ¬ Num S.data.toList x y) := num_no_whole C1.out D1.out fun h => n (h.num (by rw [← Lib.size_eq]; exact h1))
        clear n
        go_enter Tryz.func163, Tryz.ntmps163
        go_wp2_with fail
        refine (Cut_s S S ⟨#[]⟩ 47 false _ C2.out (by omega) HMX.out).mono ?_
        rintro e w1 ⟨rfl, hb⟩
        have HM1 := Lib.hid (HMX.out.below hb)
        have HB1 := Lib.hid hb
        have hs1 := hb.size
        clear hb
        go_wp2_with fail
        refine (Cut_s S S ⟨#[]⟩ 46 false _ D2.out (by omega) HM1.out).mono ?_
        rintro e w2 ⟨rfl, hb⟩
        have HB2 := Lib.hid (HB1.out.trans (hb.mono hs1))
        have hs2 := HB2.out.size
        clear hb
        go_wp2_with fail
        refine (Parse_no S _ (by omega) N.out).mono ?_
        rintro e w3 ⟨rfl, rfl⟩
        go_wp2_with fail
        refine (Of_any 1 _ (by omega)).mono ?_
        rintro e w4 ⟨B, d, rfl, ho, hb⟩
        have HF : Hid (PSz S.data.toList w (.returned (.tuple #[.slice none 0 0, .slice B (lim 1).length d, .bool false])) w4) :=
          PSz.bad HNN.out (HB2.out.trans (hb.mono hs2))
        clear ho hb
        go_wp2
        go_ret3
        exact HF.out
    · obtain ⟨A, hA⟩ := str_data a
      obtain ⟨B, hB⟩ := str_data b
      have D1 : Hid (S.data.toList = A.data.toList ++ 46 :: B.data.toList) := by show _ = _; rw [hA, hB]; exact d1
      have D2 : Hid ((46 : UInt8) ∉ A.data.toList) := by show _ ∉ _; rw [hA]; exact d2
      have D3 : Hid (Lib.cut S.data.toList [46] = (A.data.toList, B.data.toList, true)) := by show _ = _; rw [hA, hB]; exact d3
      have hsz : A.size + B.size ≤ 400 := by
        have := congrArg List.length D1.out
        rw [List.length_append, List.length_cons, ← Lib.size_eq, ← Lib.size_eq, ← Lib.size_eq] at this
        omega
      clear hA hB d1 d2 d3 one
      go_enter Tryz.func163, Tryz.ntmps163
      go_wp2_with fail
      refine (Cut_s S S ⟨#[]⟩ 47 false _ C2.out (by omega) HMX.out).mono ?_
      rintro e w1 ⟨rfl, hb⟩
      have HM1 := Lib.hid (HMX.out.below hb)
      have HB1 := Lib.hid hb
      have hs1 := hb.size
      clear hb
      go_wp2_with fail
      refine (Cut_s S A B 46 true _ D3.out (by omega) HM1.out).mono ?_
      rintro e w2 ⟨rfl, hb⟩
      have HB2 := Lib.hid (HB1.out.trans (hb.mono hs1))
      have hs2 := HB2.out.size
      clear hb
      go_wp2_with fail
      refine (parsePoint_p S.data.toList A B _ D1.out C1.out D2.out hsz).mono ?_
      rintro e w3 ⟨v1, v2, b, rfl, hb, hy, hn⟩
      have HF : Hid (PSz S.data.toList w (.returned (.tuple #[v1, v2, .bool b])) w3) := ⟨v1, v2, b, rfl, HB2.out.trans (hb.mono hs2), hy, hn⟩
      clear hb hy hn
      go_wp2
      go_ret3
      exact HF.out
  · obtain ⟨A, hA⟩ := str_data a
    obtain ⟨B, hB⟩ := str_data b
    have D1 : Hid (S.data.toList = A.data.toList ++ 47 :: B.data.toList) := by show _ = _; rw [hA, hB]; exact c1
    have D2 : Hid ((47 : UInt8) ∉ A.data.toList) := by show _ ∉ _; rw [hA]; exact c2
    have D3 : Hid (Lib.cut S.data.toList [47] = (A.data.toList, B.data.toList, true)) := by show _ = _; rw [hA, hB]; exact c3
    have hsz : A.size + B.size ≤ 400 := by
      have := congrArg List.length D1.out
      rw [List.length_append, List.length_cons, ← Lib.size_eq, ← Lib.size_eq, ← Lib.size_eq] at this
      omega
    clear hA hB c1 c2 c3 one
    go_enter Tryz.func163, Tryz.ntmps163
    go_wp2_with fail
    refine (Cut_s S A B 47 true _ D3.out (by omega) HMX.out).mono ?_
    rintro e w2 ⟨rfl, hb⟩
    have HB2 := Lib.hid hb
    have hs2 := HB2.out.size
    clear hb
    go_wp2_with fail
    refine (parseFraction_p S.data.toList A B _ D1.out D2.out (by omega) (by omega)).mono ?_
    rintro e w3 ⟨v1, v2, b, rfl, hb, hy, hn⟩
    have HF : Hid (PSz S.data.toList w (.returned (.tuple #[v1, v2, .bool b])) w3) := ⟨v1, v2, b, rfl, HB2.out.trans (hb.mono hs2), hy, hn⟩
    clear hb hy hn
    go_wp2
    go_ret3
    exact HF.out

/-- What Parse answers of a text of at most 400 bytes. -/
def DParse (neg : Bool) (m : List UInt8) (w : World) (e : Ending) (w' : World) : Prop :=
  ∃ (v : Rv) (code : Int), e = .returned (.tuple #[.agg #[.bool v.s, .slice v.A v.n v.c, .slice v.B v.m v.d], .int .i64 code]) ∧ Below w.heap.size w w' ∧
    ((∃ x y, Num m x y ∧ code = 0 ∧ Rt w' w.heap.size v (rn neg x y)) ∨ ((∀ x y, ¬ Num m x y) ∧ code = 2 ∧ v = ⟨false, none, 0, 0, none, 0, 0⟩))

set_option maxRecDepth 100000 in
set_option maxHeartbeats 4000000 in
theorem dParse_p (S M : ByteArray) (neg : Bool) (w : World) (h1 : S.size ≤ 400) (hs : Sgn S.data.toList neg M.data.toList) (hx : Mx w) :
    Calls Tryz.prog 138 #[.string S] w (DParse neg M.data.toList w) := by
  have HMX := Lib.hid hx
  have HS := Lib.hid hs
  have hms : M.size ≤ 400 := by
    cases neg with
    | true => have := congrArg List.length (hs.yes rfl); rw [List.length_cons, ← Lib.size_eq, ← Lib.size_eq] at this; omega
    | false => have := congrArg List.length (hs.no rfl).1; rw [← Lib.size_eq, ← Lib.size_eq] at this; omega
  clear hx hs
  go_enter Tryz.func138, Tryz.ntmps138
  go_wp2_with fail
  have k := C3.new w (.bool false) (.slice none 0 0) (.slice none 0 0)
  have HB0 := Lib.hid (below_alloc w (.cells #[.bool false, .slice none 0 0, .slice none 0 0] 24))
  have hw1 : (w.alloc (.cells #[.bool false, .slice none 0 0, .slice none 0 0] 24)).heap.size = w.heap.size + 1 := by simp
  have HM0 := Lib.hid (HMX.out.below HB0.out)
  have k2 : C3 (w.alloc (.cells #[.bool false, .slice none 0 0, .slice none 0 0] 24)) w.heap.size (.bool false) (.slice none 0 0) (.slice none 0 0) := k
  clear k
  refine (CutPrefix_s S M neg _ HS.out).mono ?_
  rintro e w' ⟨rfl, rfl⟩
  go_wp2_with fail
  refine (parseSize_p M _ hms HM0.out).mono ?_
  rintro e w1 ⟨v1, v2, b, rfl, hb, hy, hn⟩
  replace k2 := k2.below hb
  have HB1 := Lib.hid (HB0.out.trans (hb.mono (by omega)))
  have hs1 : w.heap.size + 1 ≤ w1.heap.size := by have := hb.size; omega
  clear hb hw1
  obtain ⟨q0, q1, q2, g0, g1, g2⟩ := k2.facts
  cases b with
  | false =>
    have HN := Lib.hid (hn rfl)
    clear hy hn
    go_wp2
    refine ret3t (fn := Tryz.f138) Tryz.results138 rfl rfl rfl (k2.put (.bool false) (.slice none 0 0) (.slice none 0 0)) ?_
    exact ⟨⟨false, none, 0, 0, none, 0, 0⟩, 2, rfl, HB1.out.trans (put3_below (Nat.le_refl _) _ _ _), .inr ⟨HN.out, rfl, rfl⟩⟩
  | true =>
    obtain ⟨x, y, A, c, B, d, h, rfl, rfl, hc, hd, hr1, hr2⟩ := hy rfl
    have hl := h.len (by rw [← Lib.size_eq]; exact hms)
    have HN := Lib.hid h
    clear hy hn h
    obtain ⟨hl1, hl2⟩ := hl
    go_wp2_with fail
    refine (Of_nums neg A B _ _ c d x y _ _ (rn neg x y) _ (val_lim _) (val_lim _) (by omega) (by omega) hc hd hr1 hr2 rfl).mono ?_
    rintro e w2 ⟨z, rfl, hz, hb⟩
    replace k2 := k2.below hb
    have HB2 := Lib.hid (HB1.out.trans (hb.mono HB1.out.size))
    clear hb q0 q1 q2 g0 g1 g2 hr1 hr2
    obtain ⟨q0, q1, q2, g0, g1, g2⟩ := k2.facts
    go_wp2
    refine ret3t (fn := Tryz.f138) Tryz.results138 rfl rfl rfl (k2.put (.bool z.s) (.slice z.A z.n z.c) (.slice z.B z.m z.d)) ?_
    exact ⟨z, 0, rfl, HB2.out.trans (put3_below (Nat.le_refl _) _ _ _), .inl ⟨x, y, HN.out, rfl, (hz.put (by omega) _ _ _).lower (by omega)⟩⟩
end Go.Proofs.YtcmkgoikmleanaaGreatDoor

namespace Go.Proofs.YtcmkgoikmleanaaGreatDoor
set_option maxRecDepth 20000
open Go.RowKit

theorem kn1 : fxd (rn false 5 2) (hsc 0) = [50] := by decide +kernel
theorem kn2 : fxd (rn true 1 8) (hsc 2) = [45, 48, 46, 49, 50] := by decide +kernel

end Go.Proofs.YtcmkgoikmleanaaGreatDoor

namespace Go.Proofs.YtcmkgoikmleanaaGreatDoor
set_option maxRecDepth 20000
open Go.RowKit

theorem rnd_sz {r : Rat} {p k : Nat} (sz : Sz r p) (hk : k ≤ 9) : Sz (rnd r k) (p + 4) := by
  have hp : 0 < p := by
    rcases Nat.eq_zero_or_pos p with h | h
    · subst h; have := sz.den; have h2 := r.den_pos; simp only [Bd, Nat.pow_zero] at this; omega
    · exact h
  have h1 : Bd (un r k) (p + 4) := Bd.ofL (Nat.le_trans (un_len sz k) (by omega))
  have h2 : Bd (10 ^ k) (p + 4) := Bd.ofL (Nat.le_trans (ten_len (k := k) (m := 9) hk) (by omega))
  exact Sz.ofRn rfl h1 h2 (by omega)
theorem rnd_len {r : Rat} {k : Nat} (sz : Sz r 400) (hk : k ≤ 9) {z : Rv} {w : World} {lo : Nat} (h : Rt w lo z (rnd r k)) : z.n ≤ 100000 ∧ z.m ≤ 100000 := by
  have s := rnd_sz sz hk
  rw [h.numLen, h.denLen]
  have := s.num.len
  have := s.den.len
  omega
end Go.Proofs.YtcmkgoikmleanaaGreatDoor

namespace Go.Proofs.YtcmkgoikmleanaaGreatDoor
set_option maxRecDepth 20000
open Go.RowKit

/-- What Exact answers of a number: its text and whether it has one. -/
def ExW (F : ByteArray) (b : Bool) (r : Rat) : Prop :=
  (b = true ∧ ∃ K, K ≤ 60 ∧ ExAt r.num.natAbs r.den K ∧ F.data.toList = ext r K) ∨ (b = false ∧ F = ⟨#[]⟩ ∧ ∀ j, j ≤ 60 → ¬ r.den ∣ r.num.natAbs * 10 ^ j)
theorem exW_ex (r : Rat) : ∃ F b, ExW F b r := by
  by_cases h : r.den ∣ r.num.natAbs * 10 ^ 60
  · obtain ⟨K, h1, h2⟩ := ex_of h
    obtain ⟨F, hF⟩ := str_data (ext r K)
    exact ⟨F, true, .inl ⟨rfl, K, h1, h2, hF⟩⟩
  · exact ⟨⟨#[]⟩, false, .inr ⟨rfl, rfl, fun j hj hd => h (ex_more hj hd)⟩⟩
theorem dExact_v (F : ByteArray) (b : Bool) (v : Rv) (r : Rat) (w : World) (h : ExW F b r) (hv : Rw w v r 400) (ht : Tb w) :
    Calls Tryz.prog 34 #[.agg #[.bool v.s, .slice v.A v.n v.c, .slice v.B v.m v.d]] w fun e w' => e = .returned (.tuple #[.string F, .bool b]) ∧ Below w.heap.size w w' := by
  rcases h with ⟨rfl, K, hK, hE, hF⟩ | ⟨rfl, rfl, hn⟩
  · exact dExact_yes F v r K w hE hK hF hv ht
  · exact dExact_no v r w (hn 60 (by omega)) hv
theorem rExact_v (F : ByteArray) (b : Bool) (v : Rv) (r : Rat) (w : World) (h : ExW F b r) (hv : Rw w v r 40) :
    Calls Tryz.prog 27 #[.agg #[.bool v.s, .slice v.A v.n v.c, .slice v.B v.m v.d]] w fun e w' => e = .returned (.tuple #[.string F, .bool b]) ∧ Below w.heap.size w w' := by
  rcases h with ⟨rfl, K, hK, hE, hF⟩ | ⟨rfl, rfl, hn⟩
  · refine (rExact_p F v r w (fun L _ hL => by rw [hF, hE.same hL]) hv).mono ?_
    rintro e w' ⟨⟨L, _, _, rfl⟩ | ⟨h1, _⟩, hb⟩
    · exact ⟨rfl, hb⟩
    · exact absurd hE.tells (h1 K hK)
  · refine (rExact_p ⟨#[]⟩ v r w (fun L hL hL2 => absurd hL2.tells (hn L hL)) hv).mono ?_
    rintro e w' ⟨⟨L, h1, h2, _⟩ | ⟨_, rfl⟩, hb⟩
    · exact absurd h2.tells (hn L h1)
    · exact ⟨rfl, hb⟩
end Go.Proofs.YtcmkgoikmleanaaGreatDoor

namespace Go.Proofs.YtcmkgoikmleanaaGreatDoor
set_option maxRecDepth 20000
open Go.RowKit

theorem rn_same {s : Bool} {x y x' y' : Nat} (hy : y ≠ 0) (hy' : y' ≠ 0) (h : x * y' = x' * y) : rn s x y = rn s x' y' := by
  unfold rn
  have h2 : (x : Int) * (y' : Int) = (x' : Int) * (y : Int) := by rw [← Int.natCast_mul, ← Int.natCast_mul, h]
  rw [Rat.mkRat_eq_iff hy hy']
  cases s
  · simpa using h2
  · simp [Int.neg_mul, h2]
theorem Num.one {m : List UInt8} {x y x' y' : Nat} (h : Num m x y) (h' : Num m x' y') : x = x' ∧ y = y' := by
  have no : ∀ {c : UInt8} {a b : List UInt8}, c.toNat < 48 → m = a ++ c :: b → IsDs m → False := fun hc hm hd => hd.dig.notin hc (by rw [hm]; simp)
  have two : ∀ {a b a' b' : List UInt8}, m = a ++ 46 :: b → m = a' ++ 47 :: b' → IsDs a → IsDs b → False := by
    intro a b a' b' h1 h2 ha hb
    have : (47 : UInt8) ∈ a ++ 46 :: b := by rw [← h1, h2]; simp
    rcases List.mem_append.1 this with h | h
    · exact ha.dig.notin (c := 47) (by decide) h
    · rcases List.mem_cons.1 h with h | h
      · exact absurd h (by decide)
      · exact hb.dig.notin (c := 47) (by decide) h
  cases h with
  | whole h1 =>
    cases h' with
    | whole h2 => exact ⟨rfl, rfl⟩
    | point a b e _ _ => exact (no (by decide) e h1).elim
    | frac a b e _ _ _ => exact (no (by decide) e h1).elim
  | point a b e ha hb =>
    cases h' with
    | whole h2 => exact (no (by decide) e h2).elim
    | point a' b' e' ha' hb' =>
      obtain ⟨rfl, rfl⟩ := cut_same (e.symm.trans e') (ha.dig.notin (by decide)) (ha'.dig.notin (by decide))
      exact ⟨rfl, rfl⟩
    | frac a' b' e' _ _ _ => exact (two e e' ha hb).elim
  | frac a b e ha hb h0 =>
    cases h' with
    | whole h2 => exact (no (by decide) e h2).elim
    | point a' b' e' ha' hb' => exact (two e' e ha' hb').elim
    | frac a' b' e' ha' hb' _ =>
      obtain ⟨rfl, rfl⟩ := cut_same (e.symm.trans e') (ha.dig.notin (by decide)) (ha'.dig.notin (by decide))
      exact ⟨rfl, rfl⟩
theorem sgn_of (b : Bool) (l : List UInt8) (h : l.head? ≠ some 45) : Sgn (sgnd b l) b l := by
  cases b
  · exact ⟨fun h => (by cases h), fun _ => ⟨rfl, h⟩⟩
  · exact ⟨fun _ => rfl, fun h => by cases h⟩
theorem ds_dec (n : Nat) : IsDs (Lib.decDigits n) := ⟨List.length_pos_iff.1 (dec_len_pos n), Dig_dec n⟩
theorem ds_pad {k : Nat} (hk : k ≠ 0) (n : Nat) : IsDs (pad k n) := ⟨List.length_pos_iff.1 (by rw [pad_len]; omega), Dig_pad k n⟩
theorem head_dec (n : Nat) (t : List UInt8) : (Lib.decDigits n ++ t).head? ≠ some 45 := by
  obtain ⟨c, l, h⟩ := List.exists_cons_of_ne_nil (ds_dec n).pos
  rw [h]
  intro e
  simp at e
  subst e
  have := (h ▸ Dig_dec n : Dig (45 :: l)).head
  simp at this
theorem num_fx (n k : Nat) : Num (fx n k) n (10 ^ k) := by
  unfold fx
  split
  · rename_i h
    subst h
    have := Num.whole (ds_dec n)
    rwa [nu_dec] at this
  · rename_i h
    have := Num.point (m := Lib.decDigits (n / 10 ^ k) ++ 46 :: pad k (n % 10 ^ k)) _ _ rfl (ds_dec _) (ds_pad h _)
    rwa [fx_nu, pad_len] at this
theorem head_fx (n k : Nat) : (fx n k).head? ≠ some 45 := by
  unfold fx
  split
  · have := head_dec n []
    rwa [List.append_nil] at this
  · exact head_dec _ _
/-- F is a text of the number r. -/
def Txt (F : ByteArray) (r : Rat) : Prop :=
  F.size ≤ 400 ∧ ∃ (neg : Bool) (M : ByteArray) (x y : Nat), Sgn F.data.toList neg M.data.toList ∧ Num M.data.toList x y ∧ rn neg x y = r
theorem dParse_v (F : ByteArray) (r : Rat) (w : World) (h : Txt F r) (hx : Mx w) :
    Calls Tryz.prog 138 #[.string F] w fun e w' => ∃ z : Rv, e = .returned (.tuple #[.agg #[.bool z.s, .slice z.A z.n z.c, .slice z.B z.m z.d], .int .i64 0]) ∧ Rt w' w.heap.size z r ∧ Below w.heap.size w w' := by
  obtain ⟨h1, neg, M, x, y, hs, hn, rfl⟩ := h
  refine (dParse_p F M neg w h1 hs hx).mono ?_
  rintro e w' ⟨v, code, rfl, hb, ⟨x', y', hn', rfl, hv⟩ | ⟨hno, _, _⟩⟩
  · obtain ⟨rfl, rfl⟩ := hn.one hn'
    exact ⟨v, rfl, hv, hb⟩
  · exact absurd hn (hno x y)
theorem Txt.mk {F : ByteArray} {r : Rat} {b : Bool} {m : List UInt8} {x y : Nat} (hF : F.data.toList = sgnd b m) (hh : m.head? ≠ some 45) (hn : Num m x y) (hr : rn b x y = r) (hl : m.length ≤ 399) : Txt F r := by
  obtain ⟨M, hM⟩ := str_data m
  refine ⟨?_, b, M, x, y, ?_, by rw [hM]; exact hn, hr⟩
  · rw [str_size hF]; have := sgnd_len b m; omega
  · rw [hF, hM]; exact sgn_of b m hh
theorem ten160 {x : Nat} (h : Bd x 16) : x < 10 ^ 160 := by
  have h1 : x < 4294967296 ^ 16 := h
  have h2 : 4294967296 ^ 16 ≤ (10 ^ 10) ^ 16 := Nat.pow_le_pow_left (by omega) _
  rw [← Nat.pow_mul] at h2
  omega
theorem txt_dpr {F : ByteArray} {r : Rat} (hF : F.data.toList = dpr r) (sz : Sz r 16) : Txt F r := by
  have l1 := dec_len_le (k := 160) (by omega) (ten160 sz.num)
  have l2 := dec_len_le (k := 160) (by omega) (ten160 sz.den)
  unfold dpr at hF
  have e1 : sgnd (decide (r.num < 0)) (Lib.decDigits r.num.natAbs) ++ (if r.den = 1 then [] else 47 :: Lib.decDigits r.den) = sgnd (decide (r.num < 0)) (Lib.decDigits r.num.natAbs ++ (if r.den = 1 then [] else 47 :: Lib.decDigits r.den)) := by
    unfold sgnd; split <;> rfl
  rw [e1] at hF
  refine Txt.mk (x := r.num.natAbs) (y := r.den) hF (head_dec _ _) ?_ (rn_self r) ?_
  · split
    · rename_i h
      rw [List.append_nil, h]
      have := Num.whole (ds_dec r.num.natAbs)
      rwa [nu_dec] at this
    · have := Num.frac (m := Lib.decDigits r.num.natAbs ++ 47 :: Lib.decDigits r.den) _ _ rfl (ds_dec _) (ds_dec _) (by rw [nu_dec]; exact r.den_nz)
      rwa [nu_dec, nu_dec] at this
  · split
    · simp; omega
    · simp; omega
theorem txt_ext {F : ByteArray} {r : Rat} (h : ExW F true r) (sz : Sz r 16) : Txt F r := by
  rcases h with ⟨_, K, hK, hE, hF⟩ | ⟨h, _⟩
  · obtain ⟨q, hq⟩ := hE.tells
    have e : r.num.natAbs * 10 ^ K / r.den = q := by rw [hq, Nat.mul_div_cancel_left _ r.den_pos]
    unfold ext at hF
    rw [e] at hF
    refine Txt.mk hF (head_fx _ _) (num_fx _ _) ?_ ?_
    · rw [rn_same (x' := r.num.natAbs) (y' := r.den) (by have := ten_pos K; omega) r.den_nz (by rw [hq, Nat.mul_comm])]
      exact rn_self r
    · have hx := ten160 sz.num
      have h2 : q < 10 ^ (160 + K) := by
        have h3 : q ≤ r.num.natAbs * 10 ^ K := by rw [hq]; exact Nat.le_mul_of_pos_left _ r.den_pos
        have h4 : r.num.natAbs * 10 ^ K < 10 ^ 160 * 10 ^ K := Nat.mul_lt_mul_of_pos_right hx (ten_pos K)
        rw [Nat.pow_add]; omega
      have := fx_len (k := K) (j := 160 + K) (by omega) h2
      omega
  · cases h
theorem txt_fxd {F : ByteArray} {r : Rat} {k : Nat} (hF : F.data.toList = fxd r k) (hk : k ≤ 9) (sz : Sz r 16) : Txt F (rnd r k) := by
  unfold fxd at hF
  refine Txt.mk hF (head_fx _ _) (num_fx _ _) ?_ ?_
  · unfold rnd
    by_cases h : un r k = 0
    · rw [rn_zero (.inl h), rn_zero (.inl h)]
    · rw [decide_eq_true h, Bool.and_true]
  · have hu : (lim (un r k)).length ≤ 20 := by have := un_len sz k; omega
    have h1 : un r k < 4294967296 ^ 20 := Bd.ofL hu
    have h2 : 4294967296 ^ 20 ≤ (10 ^ 10) ^ 20 := Nat.pow_le_pow_left (by omega) _
    rw [← Nat.pow_mul] at h2
    have := fx_len (k := k) (j := 200) (by omega) (show un r k < 10 ^ 200 by omega)
    omega
end Go.Proofs.YtcmkgoikmleanaaGreatDoor

namespace Go.Proofs.YtcmkgoikmleanaaGreatDoor
set_option maxRecDepth 20000
open Go.RowKit

theorem un_int {r : Rat} (h : r.den = 1) (k : Nat) : un r k = r.num.natAbs * 10 ^ k := by
  unfold un
  rw [h, Nat.mod_one, Nat.div_one, if_neg (by omega)]
theorem int_dpr {r : Rat} (h : r.den = 1) : dpr r = sgnd (decide (r.num < 0)) (Lib.decDigits r.num.natAbs) := by
  unfold dpr; rw [if_pos h, List.append_nil]
theorem int_fxd {r : Rat} (h : r.den = 1) : fxd r 0 = sgnd (decide (r.num < 0)) (Lib.decDigits r.num.natAbs) := by
  unfold fxd
  rw [un_int h, Nat.pow_zero, Nat.mul_one]
  unfold fx
  rw [if_pos rfl]
  by_cases h1 : r.num < 0
  · rw [decide_eq_true h1, decide_eq_true (show r.num.natAbs ≠ 0 by omega)]; rfl
  · rw [decide_eq_false h1]; rfl
theorem int_exW {r : Rat} {F : ByteArray} (h : r.den = 1) (hF : F.data.toList = sgnd (decide (r.num < 0)) (Lib.decDigits r.num.natAbs)) : ExW F true r := by
  refine .inl ⟨rfl, 0, by omega, ⟨by rw [h]; exact Nat.one_dvd _, fun j hj => absurd hj (by omega)⟩, ?_⟩
  rw [hF]
  unfold ext fx
  rw [if_pos rfl, h, Nat.pow_zero, Nat.mul_one, Nat.div_one]
theorem rnd_int {r : Rat} (h : r.den = 1) (k : Nat) : rnd r k = r := by
  unfold rnd
  rw [un_int h]
  refine Eq.trans (rn_same (x' := r.num.natAbs) (y' := r.den) (by have := ten_pos k; omega) r.den_nz ?_) (rn_self r)
  rw [h, Nat.mul_one]
theorem rn_one {s : Bool} {x : Nat} : (rn s x 1).den = 1 ∧ (rn s x 1).num.natAbs = x := by
  rw [rn_den (by omega), rn_abs (by omega), Nat.gcd_one_right, Nat.div_one, Nat.div_one]; exact ⟨rfl, rfl⟩
end Go.Proofs.YtcmkgoikmleanaaGreatDoor
