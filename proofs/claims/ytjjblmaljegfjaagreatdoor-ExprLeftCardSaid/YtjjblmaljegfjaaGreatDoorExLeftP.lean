/-
  Expressions, no program: names with signs between two are read from the left.
-/
import Derived.Test.YtjjblmaljegfjaaGreatDoorMEd
namespace Go.Proofs.YtjjblmaljegfjaaGreatDoor
set_option maxRecDepth 20000

def sg (p b : Bool) : UInt8 := if p then (if b then 47 else 42) else (if b then 45 else 43)
def kd (p b : Bool) : Nat := if p then (if b then 6 else 5) else (if b then 4 else 3)
def fl (p : Bool) (bs : List Bool) : List UInt8 := bs.flatMap fun b => [sg p b, 98]
def lT (p : Bool) (t : Ex) (bs : List Bool) : Ex := bs.foldl (fun t b => .bin (kd p b) t (.nm ⟨#[98]⟩)) t
theorem bt_drop {S : ByteArray} {p : Nat} {c : UInt8} {r : List UInt8} (h : S.data.toList.drop p = c :: r) : bt S p = c ∧ p < S.size ∧ S.data.toList.drop (p + 1) = r := by
  have hl : p < S.data.toList.length := by
    rcases Nat.lt_or_ge p S.data.toList.length with h1 | h1
    · exact h1
    · rw [List.drop_eq_nil_of_le h1] at h; cases h
  rw [List.drop_eq_getElem_cons hl] at h
  injection h with h1 h2
  refine ⟨?_, by rw [data_size] at hl; exact hl, h2⟩
  unfold bt
  rw [List.getElem?_eq_getElem hl, Option.getD_some]; exact h1
theorem bt_end {S : ByteArray} {p : Nat} (h : S.data.toList.drop p = []) : bt S p = 0 := by
  apply bt_ge
  have := List.drop_eq_nil_iff.1 h
  rw [data_size] at this; exact this
theorem run_none {f : UInt8 → Bool} {S : ByteArray} {p : Nat} (h : ∀ c r, S.data.toList.drop p = c :: r → f c = false) : run f S p = p := by
  unfold run
  cases hd : S.data.toList.drop p with
  | nil => rfl
  | cons c r => rw [List.takeWhile_cons, if_neg (by rw [h c r hd]; decide)]; rfl
theorem run_one {f : UInt8 → Bool} {S : ByteArray} {p : Nat} {c : UInt8} {r : List UInt8} (h : S.data.toList.drop p = c :: r) (hc : f c = true) (hr : ∀ d r', r = d :: r' → f d = false) : run f S p = p + 1 := by
  unfold run
  rw [h, List.takeWhile_cons, if_pos hc]
  cases r with
  | nil => rfl
  | cons d r => rw [List.takeWhile_cons, if_neg (by rw [hr d r rfl]; decide)]; rfl
/-- What may stand behind a name. -/
def Bhd (r : List UInt8) : Prop := ∀ d r', r = d :: r' → d = 42 ∨ d = 47 ∨ d = 43 ∨ d = 45
theorem fac_nm {S : ByteArray} {dp : Option ((Nat → Nat → PR) × (Nat → Nat → PR))} {p n : Nat} {c : UInt8} {r : List UInt8} (h : S.data.toList.drop p = c :: r) (hc : c = 97 ∨ c = 98) (hr : Bhd r) :
    fac tv S dp p n = .ok (mk n (.nm ⟨#[c]⟩)) (.nm ⟨#[c]⟩) (p + 1) (n + 1) false := by
  obtain ⟨h1, h2, h3⟩ := bt_drop h
  have hs : skp S p = p := run_none fun c' r' h' => by
    rw [h] at h'; injection h' with e _; subst e
    rcases hc with rfl | rfl <;> decide
  have hn : run isNb S p = p + 1 := run_one h (by rcases hc with rfl | rfl <;> decide) fun d r' e => by
    rcases hr d r' e with rfl | rfl | rfl | rfl <;> decide
  have hx : S.extract p (p + 1) = ⟨#[c]⟩ := by
    apply ba_ext
    rw [ext_toList, h, show p + 1 - p = 1 by omega]; rfl
  rw [fac_eq, hs, h1]
  unfold name
  rw [hn, hx]
  rcases hc with rfl | rfl
  · rw [if_neg (by decide), if_neg (by decide), if_neg (by decide), if_pos (by decide), if_neg (by omega)]
  · rw [if_neg (by decide), if_neg (by decide), if_neg (by decide), if_pos (by decide), if_neg (by omega)]
theorem row_stop {S : ByteArray} {m : Nat → Nat → PR} {kf : UInt8 → Nat} {f : Nat} {t u : Ex} {p n : Nat} {lg : Bool} (h0 : kf 0 = 0) (h : ∀ c r, S.data.toList.drop p = c :: r → c ≠ 32 ∧ kf c = 0) : rowL S m kf (f + 1) t u p n lg = .ok t u p n lg := by
  have hs : skp S p = p := run_none fun c' r' h' => beq_eq_false_iff_ne.2 (h c' r' h').1
  rw [rowL, hs]
  rw [if_pos]
  cases hd : S.data.toList.drop p with
  | nil => rw [bt_end hd]; exact h0
  | cons c r => rw [(bt_drop hd).1]; exact (h c r hd).2
theorem row_run {S : ByteArray} {m : Nat → Nat → PR} {kf : UInt8 → Nat} (P : Bool) (h0 : kf 0 = 0) (hk : ∀ b, kf (sg P b) = kd P b)
    (hm : ∀ p n r, S.data.toList.drop p = 98 :: r → (∀ d r', r = d :: r' → ∃ b, d = sg P b) → m p n = .ok (mk n (.nm ⟨#[98]⟩)) (.nm ⟨#[98]⟩) (p + 1) (n + 1) false) :
    ∀ (bs : List Bool) (t : Ex) (p n f : Nat), S.data.toList.drop p = fl P bs → bs.length < f → n + 2 * bs.length ≤ 256 →
      rowL S m kf f t t p n false = .ok (lT P t bs) (lT P t bs) (p + 2 * bs.length) (n + 2 * bs.length) false := by
  intro bs
  induction bs with
  | nil =>
    intro t p n f hd hf _
    obtain ⟨f, rfl⟩ : ∃ g, f = g + 1 := ⟨f - 1, by simp at hf; omega⟩
    exact row_stop h0 fun c r h => by rw [hd] at h; cases h
  | cons b bs ih =>
    intro t p n f hd hf hn
    simp only [List.length_cons] at hf hn
    obtain ⟨f, rfl⟩ : ∃ g, f = g + 1 := ⟨f - 1, by omega⟩
    have hd' : S.data.toList.drop p = sg P b :: 98 :: fl P bs := hd
    obtain ⟨b1, b2, b3⟩ := bt_drop hd'
    obtain ⟨c1, c2, c3⟩ := bt_drop b3
    have hs : skp S p = p := run_none fun c' r' h' => by
      rw [hd'] at h'; injection h' with e _; subst e
      cases P <;> cases b <;> decide
    have hne : ¬ kd P b = 0 := by cases P <;> cases b <;> decide
    rw [rowL, hs, b1, hk b, if_neg hne, hm (p + 1) n (fl P bs) b3 (fun d r' e => by
      cases bs with
      | nil => cases e
      | cons b' bs' => injection e with e1 _; exact ⟨b', e1.symm⟩)]
    show rowL S m kf f (mk (n + 1) (.bin (kd P b) t (mk n (.nm ⟨#[98]⟩)))) (.bin (kd P b) t (.nm ⟨#[98]⟩)) (p + 1 + 1) (n + 1 + 1) (false || false) = _
    rw [mk_of (n := n) (by omega), mk_of (n := n + 1) (by omega), Bool.or_false]
    rw [ih (.bin (kd P b) t (.nm ⟨#[98]⟩)) (p + 1 + 1) (n + 1 + 1) f c3 (by omega) (by omega)]
    have e1 : p + 1 + 1 + 2 * bs.length = p + 2 * (bs.length + 1) := by omega
    have e2 : n + 1 + 1 + 2 * bs.length = n + 2 * (bs.length + 1) := by omega
    rw [e1, e2]; rfl
theorem fl_len (p : Bool) (bs : List Bool) : (fl p bs).length = 2 * bs.length := by
  induction bs with
  | nil => rfl
  | cons b bs ih => show (sg p b :: 98 :: fl p bs).length = _; simp only [List.length_cons, ih]; omega
theorem bhd_fl (p : Bool) (bs : List Bool) : Bhd (fl p bs) := by
  intro d r' e
  cases bs with
  | nil => cases e
  | cons b bs => injection e with e1 _; subst e1; cases p <;> cases b <;> decide
theorem left_parse {S : ByteArray} {P : Bool} {bs : List Bool} (h : S.data.toList = 97 :: fl P bs) (hb : bs.length ≤ 28) :
    parse tv S = .ok (lT P (.nm ⟨#[97]⟩) bs) (lT P (.nm ⟨#[97]⟩) bs) (1 + 2 * bs.length) (1 + 2 * bs.length) false := by
  have hsz : S.size = 1 + 2 * bs.length := by rw [← data_size, h, List.length_cons, fl_len]; omega
  have hd0 : S.data.toList.drop 0 = 97 :: fl P bs := h
  have hd1 := (bt_drop hd0).2.2
  have hend : ∀ c r, S.data.toList.drop (1 + 2 * bs.length) = c :: r → False := fun c r e => by
    rw [List.drop_eq_nil_of_le (by rw [data_size]; omega)] at e; cases e
  have hf : ∀ p n c r, S.data.toList.drop p = c :: r → (c = 97 ∨ c = 98) → Bhd r → fac tv S (some (lev tv S 30)) p n = .ok (mk n (.nm ⟨#[c]⟩)) (.nm ⟨#[c]⟩) (p + 1) (n + 1) false := fun p n c r h1 h2 h3 => fac_nm h1 h2 h3
  unfold parse
  show ((rowS S (rowS S (fac tv S (some (lev tv S 30))) kPro) kSum) 0 0).then _ = _
  have key : rowS S (rowS S (fac tv S (some (lev tv S 30))) kPro) kSum 0 0 = .ok (lT P (.nm ⟨#[97]⟩) bs) (lT P (.nm ⟨#[97]⟩) bs) (1 + 2 * bs.length) (1 + 2 * bs.length) false := by
    generalize fac tv S (some (lev tv S 30)) = F at *
    cases P with
    | true =>
      have h1 : rowS S F kPro 0 0 = .ok (lT true (.nm ⟨#[97]⟩) bs) (lT true (.nm ⟨#[97]⟩) bs) (1 + 2 * bs.length) (1 + 2 * bs.length) false := by
        unfold rowS
        rw [hf 0 0 97 (fl true bs) hd0 (.inl rfl) (bhd_fl _ _)]
        show rowL S F kPro (S.size + 1) (mk 0 (.nm ⟨#[97]⟩)) (.nm ⟨#[97]⟩) (0 + 1) (0 + 1) false = _
        rw [mk_of (by omega)]
        exact row_run true (by decide) (fun b => by cases b <;> decide) (fun p n r h1 h2 => hf p n 98 r h1 (.inr rfl) (fun d r' e => by
          obtain ⟨b, rfl⟩ := h2 d r' e
          cases b <;> decide)) bs _ 1 1 (S.size + 1) hd1 (by omega) (by omega)
      rw [rowS, h1]
      exact row_stop (by decide) fun c r e => (hend c r e).elim
    | false =>
      have hp : ∀ p n c r, S.data.toList.drop p = c :: r → (c = 97 ∨ c = 98) → (∀ d r', r = d :: r' → ∃ b, d = sg false b) → rowS S F kPro p n = .ok (mk n (.nm ⟨#[c]⟩)) (.nm ⟨#[c]⟩) (p + 1) (n + 1) false := by
        intro p n c r h1 h2 h3
        unfold rowS
        rw [hf p n c r h1 h2 (fun d r' e => by obtain ⟨b, rfl⟩ := h3 d r' e; cases b <;> decide)]
        refine row_stop (by decide) fun c' r' e => ?_
        have := (bt_drop h1).2.2
        rw [this] at e
        obtain ⟨b, rfl⟩ := h3 c' r' e
        cases b <;> decide
      rw [rowS, hp 0 0 97 (fl false bs) hd0 (.inl rfl) (fun d r' e => by
        cases bs with
        | nil => cases e
        | cons b bs => injection e with e1 _; exact ⟨b, e1.symm⟩)]
      show rowL S (rowS S F kPro) kSum (S.size + 1) (mk 0 (.nm ⟨#[97]⟩)) (.nm ⟨#[97]⟩) (0 + 1) (0 + 1) false = _
      rw [mk_of (by omega)]
      exact row_run false (by decide) (fun b => by cases b <;> decide) (fun p n r h1 h2 => hp p n 98 r h1 (.inr rfl) h2) bs _ 1 1 (S.size + 1) hd1 (by omega) (by omega)
  rw [key]
  show (if 1 + 2 * bs.length < S.size then _ else _) = _
  rw [if_neg (by omega)]
theorem lT_all (P : Bool) : ∀ (bs : List Bool) (t : Ex), t.fine → t.wf → t.deep ≥ 1 → (lT P t bs).fine ∧ (lT P t bs).wf ∧ (lT P t bs).deep = t.deep + bs.length ∧ (lT P t bs).nodes = t.nodes + 2 * bs.length := by
  intro bs
  induction bs with
  | nil => exact fun t h1 h2 _ => ⟨h1, h2, rfl, rfl⟩
  | cons b bs ih =>
    intro t h1 h2 h3
    have hn : (Ex.nm ⟨#[98]⟩).fine := by show isName _ = true; decide
    obtain ⟨i1, i2, i3, i4⟩ := ih (.bin (kd P b) t (.nm ⟨#[98]⟩)) ⟨h1, hn⟩ ⟨by cases P <;> cases b <;> decide, h2, trivial⟩ (by show _ ≤ max _ _ + 1; omega)
    refine ⟨i1, i2, ?_, ?_⟩
    · show (lT P (.bin (kd P b) t (.nm ⟨#[98]⟩)) bs).deep = _
      rw [i3]
      show max t.deep 1 + 1 + bs.length = t.deep + (bs.length + 1)
      omega
    · show (lT P (.bin (kd P b) t (.nm ⟨#[98]⟩)) bs).nodes = _
      rw [i4]
      show 1 + t.nodes + 1 + 2 * bs.length = t.nodes + 2 * (bs.length + 1)
      omega
theorem left_fin {S : ByteArray} {P : Bool} {bs : List Bool} (h : S.data.toList = 97 :: fl P bs) (hb : bs.length ≤ 28) : fin S = .ok (lT P (.nm ⟨#[97]⟩) bs) ∧ (lT P (.nm ⟨#[97]⟩) bs).fine := by
  obtain ⟨i1, i2, i3, i4⟩ := lT_all P bs (.nm ⟨#[97]⟩) (by show isName _ = true; decide) trivial (Nat.le_refl _)
  refine ⟨?_, i1⟩
  unfold fin
  rw [left_parse h hb]
  refine fin1_yes ⟨i1, ?_, ?_⟩
  · rw [i3]; show 1 + bs.length ≤ 32; omega
  · rw [i4]; show 1 + 2 * bs.length ≤ 256; omega
end Go.Proofs.YtjjblmaljegfjaaGreatDoor
