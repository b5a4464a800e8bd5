/-
  Plain numbers: how many bits a number takes; a quotient to the nearest, half to even; the number of 64 bits that is nearest to n by d.
  Numbers of 64 bits by their parts: the library's two calls by bits; Bits, Kind, signed, both ways.
  The program's nearest number of 64 bits: doubled, the highest power, the rounded quotient.
  The program's nearest number of 64 bits: of two naturals, of a rational.
-/
import Derived.Test.YtplpkojikgeamaaBits
import Derived.Test.YtplpkojikgeamaaRatP
import Derived.Laws.Externs
import Derived.Laws.Bits64b
import Derived.WalkSmall
namespace Go.Proofs.Ytplpkojikgeamaa
set_option maxRecDepth 20000

theorem bitLenAux_bounds : ∀ (f y : Nat), y ≠ 0 → y < 2 ^ f → 2 ^ (Lib.bitLenAux f y) ≤ 2 * y ∧ y < 2 ^ (Lib.bitLenAux f y) := by
  intro f
  induction f with
  | zero => intro y h0 h; simp at h; omega
  | succ f ih =>
    intro y h0 h
    have e : Lib.bitLenAux (f + 1) y = 1 + Lib.bitLenAux f (y / 2) := by show (if y = 0 then 0 else _) = _; rw [if_neg h0]
    rw [e, Nat.add_comm, Nat.pow_succ]
    rw [Nat.pow_succ] at h
    by_cases h1 : y / 2 = 0
    · have : y = 1 := by omega
      subst this
      have e2 : Lib.bitLenAux f (1 / 2) = 0 := by cases f <;> rfl
      rw [e2]; exact ⟨by omega, by omega⟩
    · have := ih (y / 2) h1 (by omega)
      omega
theorem bitLen_bounds {y : Nat} (h0 : y ≠ 0) (h : y < 4294967296) : 2 ^ Lib.bitLen y ≤ 2 * y ∧ y < 2 ^ Lib.bitLen y :=
  bitLenAux_bounds 64 y h0 (Nat.lt_of_lt_of_le h (by decide))

theorem val_top : ∀ (l : List Nat), L32 l → l.length ≠ 0 → 4294967296 ^ (l.length - 1) * dg l (l.length - 1) ≤ val l ∧ val l < 4294967296 ^ (l.length - 1) * (dg l (l.length - 1) + 1) := by
  intro l
  induction l with
  | nil => intro _ h; simp at h
  | cons x l ih =>
    intro hl _
    have hx := hl.head
    cases l with
    | nil => simp [val]
    | cons y l =>
      have := ih hl.tail (by simp)
      simp only [List.length_cons, Nat.add_sub_cancel] at this ⊢
      rw [dg_succ, val, Nat.pow_succ]
      generalize dg (y :: l) l.length = t at *
      generalize 4294967296 ^ l.length = P at *
      generalize val (y :: l) = V at *
      obtain ⟨h1, h2⟩ := this
      rw [Nat.mul_add, Nat.mul_one] at h2 ⊢
      rw [Nat.mul_right_comm P 4294967296 t]
      generalize P * t = Q at *
      omega

theorem nbits_bounds {x : Nat} (h0 : x ≠ 0) : 2 ^ nbits x ≤ 2 * x ∧ x < 2 ^ nbits x := by
  have hl : (lim x).length ≠ 0 := by rw [lim_pos h0]; simp
  have ht : dg (lim x) ((lim x).length - 1) ≠ 0 := by
    rcases lim_tr x with h | h
    · exact absurd h hl
    · exact h
  have h1 := val_top (lim x) (L32_lim x) hl
  rw [val_lim] at h1
  have h2 := bitLen_bounds ht (L32_lim x _)
  unfold nbits
  rw [if_neg hl, Nat.pow_add, Nat.pow_mul, show (2 : Nat) ^ 32 = 4294967296 from rfl]
  generalize dg (lim x) ((lim x).length - 1) = t at *
  generalize 4294967296 ^ ((lim x).length - 1) = P at *
  generalize 2 ^ Lib.bitLen t = B at *
  obtain ⟨h1, h3⟩ := h1
  refine ⟨?_, ?_⟩
  · calc P * B ≤ P * (2 * t) := Nat.mul_le_mul_left _ h2.1
      _ = 2 * (P * t) := by rw [Nat.mul_left_comm]
      _ ≤ 2 * x := Nat.mul_le_mul_left _ h1
  · exact Nat.lt_of_lt_of_le h3 (Nat.mul_le_mul_left _ h2.2)

/-- A quotient to the nearest; of two that are as near, the even one. -/
def rq (a b : Nat) : Nat := if b < 2 * (a % b) ∨ (2 * (a % b) = b ∧ a / b % 2 = 1) then a / b + 1 else a / b
theorem rq_scale {k a b : Nat} (hk : 0 < k) : rq (k * a) (k * b) = rq a b := by
  unfold rq
  rw [Nat.mul_mod_mul_left, Nat.mul_div_mul_left _ _ hk, Nat.mul_left_comm 2 k]
  have e1 : (k * b < k * (2 * (a % b))) = (b < 2 * (a % b)) := propext ⟨fun h => Nat.lt_of_mul_lt_mul_left h, fun h => Nat.mul_lt_mul_of_pos_left h hk⟩
  have e2 : (k * (2 * (a % b)) = k * b) = (2 * (a % b) = b) := propext ⟨fun h => Nat.eq_of_mul_eq_mul_left hk h, fun h => by rw [h]⟩
  simp only [e1, e2]
theorem rq_near {a b : Nat} (hb : 0 < b) : 2 * (rq a b * b) ≤ 2 * a + b ∧ 2 * a ≤ 2 * (rq a b * b) + b := by
  have h1 := Nat.div_add_mod a b
  have h2 := Nat.mod_lt a hb
  rw [Nat.mul_comm] at h1
  unfold rq
  split
  · rw [Nat.add_mul, Nat.one_mul]; generalize a / b * b = Q at *; omega
  · generalize a / b * b = Q at *; omega
theorem rq_exact {a b : Nat} (hb : 0 < b) : rq (a * b) b = a := by
  unfold rq
  rw [Nat.mul_mod_left, Nat.mul_div_cancel _ hb, if_neg (by omega)]
theorem rq_le {a b c : Nat} (hb : 0 < b) (h : a ≤ c * b) : rq a b ≤ c := by
  have h1 := Nat.div_add_mod a b
  have h2 := Nat.mod_lt a hb
  rw [Nat.mul_comm] at h1
  unfold rq
  have h3 : a / b ≤ c := by
    have := Nat.div_le_div_right (c := b) h
    rwa [Nat.mul_div_cancel _ hb] at this
  split
  · rcases Nat.lt_or_eq_of_le h3 with h4 | h4
    · omega
    · rw [h4] at h1; omega
  · exact h3
theorem rq_ge {a b c : Nat} (hb : 0 < b) (h : c * b ≤ a) : c ≤ rq a b := by
  have h3 : c ≤ a / b := (Nat.le_div_iff_mul_le hb).2 h
  unfold rq
  split <;> omega
theorem rq_mono1 {a a' b : Nat} (hb : 0 < b) (h : a ≤ a') : rq a b ≤ rq a' b := by
  have h1 := Nat.div_add_mod a b
  have h2 := Nat.mod_lt a hb
  have h1' := Nat.div_add_mod a' b
  have h2' := Nat.mod_lt a' hb
  have h3 : a / b ≤ a' / b := Nat.div_le_div_right h
  unfold rq
  rcases Nat.lt_or_eq_of_le h3 with h4 | h4
  · split <;> split <;> omega
  · rw [h4] at h1 ⊢
    generalize b * (a' / b) = Q at *
    generalize a' / b = q at *
    split <;> split <;> omega
theorem rq_mono {a b a' b' : Nat} (hb : 0 < b) (hb' : 0 < b') (h : a * b' ≤ a' * b) : rq a b ≤ rq a' b' := by
  have e1 : rq a b = rq (a * b') (b * b') := by rw [Nat.mul_comm a, Nat.mul_comm b, rq_scale hb']
  have e2 : rq a' b' = rq (a' * b) (b * b') := by rw [Nat.mul_comm a', rq_scale hb]
  rw [e1, e2]
  exact rq_mono1 (Nat.mul_pos hb hb') h

/-- The places that keep all above 0, the least number's, and what is between. -/
def em : Nat := 4096
def el : Nat := 1074
def eb : Nat := 3022
theorem em_eq : em = 4096 := rfl
theorem el_eq : el = 1074 := rfl
theorem eb_eq : eb = 3022 := rfl
theorem em_split : em = eb + el := rfl
theorem p53 : (9007199254740992 : Nat) = 2 ^ 53 := rfl
theorem p52 : (4503599627370496 : Nat) = 2 ^ 52 := rfl
/-- The power of two (and em) that is not above n by d, the next one is. -/
def lg (n d : Nat) : Nat := Nat.log2 (n * 2 ^ em / d)
theorem lg_is {n d k : Nat} (hd : 0 < d) (h1 : d * 2 ^ k ≤ n * 2 ^ em) (h2 : n * 2 ^ em < d * 2 ^ (k + 1)) : lg n d = k := by
  unfold lg
  generalize n * 2 ^ em = X at *
  have h3 : 2 ^ k ≤ X / d := by rw [Nat.le_div_iff_mul_le hd, Nat.mul_comm]; exact h1
  have h4 : X / d < 2 ^ (k + 1) := by rw [Nat.div_lt_iff_lt_mul hd, Nat.mul_comm]; exact h2
  have h5 : X / d ≠ 0 := by have := Nat.pow_pos (n := k) (show 0 < 2 by omega); omega
  have a1 := (Nat.le_log2 h5).2 h3
  have a2 := (Nat.log2_lt h5).2 h4
  omega
theorem lg_le {n d : Nat} (hd : 0 < d) (hn : d ≤ n * 2 ^ em) : d * 2 ^ lg n d ≤ n * 2 ^ em := by
  unfold lg
  generalize n * 2 ^ em = X at *
  have h5 : X / d ≠ 0 := by have := Nat.div_pos hn hd; omega
  have := (Nat.le_log2 h5).1 (Nat.le_refl _)
  rw [Nat.le_div_iff_mul_le hd, Nat.mul_comm] at this
  exact this
theorem lg_lt {n d : Nat} (hd : 0 < d) (hn : d ≤ n * 2 ^ em) : n * 2 ^ em < d * 2 ^ (lg n d + 1) := by
  unfold lg
  generalize n * 2 ^ em = X at *
  have h5 : X / d ≠ 0 := by have := Nat.div_pos hn hd; omega
  have := (Nat.log2_lt h5).1 (Nat.lt_succ_self _)
  rw [Nat.div_lt_iff_lt_mul hd, Nat.mul_comm] at this
  exact this
theorem lg_mono {n d n' d' : Nat} (hd : 0 < d) (hd' : 0 < d') (hn : d ≤ n * 2 ^ em) (hn' : d' ≤ n' * 2 ^ em) (h : n * d' ≤ n' * d) : lg n d ≤ lg n' d' := by
  have a1 := lg_le hd hn
  have a2 := lg_lt hd' hn'
  generalize lg n d = k at *
  generalize lg n' d' = k' at *
  rcases Nat.lt_or_ge k' k with hlt | hge
  · exfalso
    have b1 : 2 ^ (k' + 1) ≤ 2 ^ k := Nat.pow_le_pow_right (by omega) hlt
    have c1 : d * 2 ^ k * d' ≤ n * 2 ^ em * d' := Nat.mul_le_mul_right _ a1
    have c2 : n' * 2 ^ em * d < d' * 2 ^ (k' + 1) * d := Nat.mul_lt_mul_of_pos_right a2 hd
    have c3 : n * 2 ^ em * d' ≤ n' * 2 ^ em * d := by
      rw [Nat.mul_right_comm n, Nat.mul_right_comm n']; exact Nat.mul_le_mul_right _ h
    have c4 : d' * 2 ^ (k' + 1) * d ≤ d * 2 ^ k * d' := by
      have e1 : d' * 2 ^ (k' + 1) * d = d * d' * 2 ^ (k' + 1) := by grind
      have e2 : d * 2 ^ k * d' = d * d' * 2 ^ k := by grind
      rw [e1, e2]; exact Nat.mul_le_mul_left _ b1
    omega
  · exact hge
theorem lg_scale {k n d : Nat} (hk : 0 < k) : lg (k * n) (k * d) = lg n d := by
  unfold lg
  rw [Nat.mul_assoc, Nat.mul_div_mul_left _ _ hk]

/-- The place of the last bit (and 4096). -/
def un (k : Nat) : Nat := max (k - 52) eb
theorem un_eq (k : Nat) : un k = max (k - 52) 3022 := rfl
theorem un_mono {k k' : Nat} (h : k ≤ k') : un k ≤ un k' := by rw [un_eq, un_eq]; omega
/-- The bits of the number of 64 bits that is nearest to n by d, without a sign. -/
def dbl (n d : Nat) : Nat :=
  if 5120 ≤ lg n d then 9218868437227405312
  else 4503599627370496 * (un (lg n d) - eb) + rq (n * 2 ^ em) (d * 2 ^ un (lg n d))
theorem dbl_scale {k n d : Nat} (hk : 0 < k) : dbl (k * n) (k * d) = dbl n d := by
  unfold dbl
  rw [lg_scale hk, Nat.mul_assoc, Nat.mul_assoc, rq_scale hk]

/-- The count is a number of 53 bits, or of 54 with noughts; with a leading 1 unless the place is the least. -/
theorem cnt {n d : Nat} (hd : 0 < d) (hn : d ≤ n * 2 ^ em) :
    rq (n * 2 ^ em) (d * 2 ^ un (lg n d)) ≤ 9007199254740992 ∧ (un (lg n d) ≠ eb → 4503599627370496 ≤ rq (n * 2 ^ em) (d * 2 ^ un (lg n d)) ∧ 4503599627370496 * (d * 2 ^ un (lg n d)) ≤ n * 2 ^ em) := by
  have a1 := lg_le hd hn
  have a2 := lg_lt hd hn
  generalize lg n d = k at *
  generalize n * 2 ^ em = X at *
  have hp : 0 < d * 2 ^ un k := Nat.mul_pos hd (Nat.pow_pos (by omega))
  refine ⟨rq_le hp (Nat.le_trans (Nat.le_of_lt a2) ?_), fun h => ?_⟩
  · rw [Nat.mul_left_comm, p53, ← Nat.pow_add]
    exact Nat.mul_le_mul_left _ (Nat.pow_le_pow_right (by omega) (by rw [un_eq]; omega))
  · have h2 : 4503599627370496 * (d * 2 ^ un k) ≤ X := by
      refine Nat.le_trans ?_ a1
      rw [Nat.mul_left_comm, p52, ← Nat.pow_add]
      exact Nat.mul_le_mul_left _ (Nat.pow_le_pow_right (by omega) (by have := eb_eq; rw [un_eq] at h ⊢; omega))
    exact ⟨rq_ge hp h2, h2⟩

theorem dbl_top {e c : Nat} (he : e ≤ 2045) (hc : c ≤ 9007199254740992) : 4503599627370496 * e + c ≤ 9218868437227405312 := by
  omega
theorem dbl_step {e e' c c' : Nat} (he : e < e') (hc : c ≤ 9007199254740992) (hc' : 4503599627370496 ≤ c') : 4503599627370496 * e + c ≤ 4503599627370496 * e' + c' := by
  omega
theorem step_core {u u' c c' : Nat} (hu : u ≤ u') (hu3 : eb ≤ u) (d1 : c ≤ 9007199254740992) (d2 : u' ≠ eb → 4503599627370496 ≤ c') (hm : u = u' → c ≤ c') :
    4503599627370496 * (u - eb) + c ≤ 4503599627370496 * (u' - eb) + c' := by
  rcases Nat.lt_or_eq_of_le hu with h3 | h3
  · exact dbl_step (by omega) d1 (d2 (by omega))
  · have := hm h3
    rw [h3]; exact Nat.add_le_add_left this _
theorem dbl_le {n d : Nat} (hd : 0 < d) (hn : d ≤ n * 2 ^ em) : dbl n d ≤ 9218868437227405312 := by
  have h := (cnt hd hn).1
  unfold dbl
  split
  · omega
  · rename_i hk
    have : un (lg n d) ≤ 5067 := by rw [un_eq]; omega
    have he := eb_eq
    generalize rq (n * 2 ^ em) (d * 2 ^ un (lg n d)) = c at *
    generalize un (lg n d) = u at *
    exact dbl_top (show u - eb ≤ 2045 by omega) h
theorem dbl_mono {n d n' d' : Nat} (hd : 0 < d) (hd' : 0 < d') (hn : d ≤ n * 2 ^ em) (hn' : d' ≤ n' * 2 ^ em) (h : n * d' ≤ n' * d) : dbl n d ≤ dbl n' d' := by
  have hk := lg_mono hd hd' hn hn' h
  have c1 := cnt hd hn
  have c2 := cnt hd' hn'
  have l1 := dbl_le hd hn
  have hm : un (lg n d) = un (lg n' d') → rq (n * 2 ^ em) (d * 2 ^ un (lg n d)) ≤ rq (n' * 2 ^ em) (d' * 2 ^ un (lg n' d')) := by
    intro e
    rw [← e]
    have hp := Nat.pow_pos (n := un (lg n d)) (show 0 < 2 by omega)
    refine rq_mono (Nat.mul_pos hd hp) (Nat.mul_pos hd' hp) ?_
    generalize 2 ^ un (lg n d) = U at *
    generalize 2 ^ em = T
    calc n * T * (d' * U) = (n * d') * (T * U) := by grind
      _ ≤ (n' * d) * (T * U) := Nat.mul_le_mul_right _ h
      _ = n' * T * (d * U) := by grind
  unfold dbl at l1 ⊢
  by_cases h2 : 5120 ≤ lg n' d'
  · rw [if_pos h2]; exact l1
  · clear l1
    rw [if_neg h2, if_neg (fun h3 => h2 (Nat.le_trans h3 hk))]
    have hu : un (lg n d) ≤ un (lg n' d') := un_mono hk
    have hu3 : eb ≤ un (lg n d) := Nat.le_max_right _ _
    exact step_core hu hu3 c1.1 (fun h => (c2.2 h).1) hm

/-- What the bits without a sign are worth, in the least one's units. -/
def worth (u : Nat) : Nat := if u < 4503599627370496 then u else (4503599627370496 + u % 4503599627370496) * 2 ^ (u / 4503599627370496 - 1)
theorem worth_at {e c : Nat} (h : c ≤ 9007199254740992) (h2 : e ≠ 0 → 4503599627370496 ≤ c) : worth (4503599627370496 * e + c) = c * 2 ^ e := by
  unfold worth
  by_cases h0 : c < 4503599627370496
  · have : e = 0 := by
      rcases Nat.eq_zero_or_pos e with h3 | h3
      · exact h3
      · have := h2 (by omega); omega
    subst this
    rw [if_pos (by omega)]; simp
  · rw [if_neg (by have := Nat.zero_le (4503599627370496 * e); omega)]
    by_cases h3 : c = 9007199254740992
    · subst h3
      have e1 : 4503599627370496 * e + 9007199254740992 = 4503599627370496 * (e + 2) := by omega
      rw [e1, Nat.mul_mod_right, Nat.mul_div_cancel_left _ (by omega), show e + 2 - 1 = e + 1 by omega, Nat.pow_succ]
      generalize 2 ^ e = P
      omega
    · obtain ⟨r, rfl⟩ : ∃ r, c = 4503599627370496 + r := ⟨c - 4503599627370496, by omega⟩
      have e1 : 4503599627370496 * e + (4503599627370496 + r) = 4503599627370496 * (e + 1) + r := by omega
      rw [e1, Nat.mul_add_mod, Nat.mod_eq_of_lt (by omega), Nat.mul_add_div (by omega), Nat.div_eq_of_lt (by omega)]
      simp
theorem worth_split (u : Nat) : ∃ e c, u = 4503599627370496 * e + c ∧ c < 9007199254740992 ∧ (e ≠ 0 → 4503599627370496 ≤ c) ∧ worth u = c * 2 ^ e := by
  by_cases h : u < 4503599627370496
  · exact ⟨0, u, by omega, by omega, by omega, by unfold worth; rw [if_pos h]; simp⟩
  · have h1 := Nat.div_add_mod u 4503599627370496
    have h2 := Nat.mod_lt u (show 0 < 4503599627370496 by omega)
    have h3 : 1 ≤ u / 4503599627370496 := by omega
    refine ⟨u / 4503599627370496 - 1, 4503599627370496 + u % 4503599627370496, ?_, by omega, by omega, ?_⟩
    · generalize u / 4503599627370496 = q at *
      obtain ⟨q, rfl⟩ : ∃ p, q = p + 1 := ⟨q - 1, by omega⟩
      rw [Nat.add_sub_cancel]; omega
    · unfold worth; rw [if_neg h]
theorem worth_step (u : Nat) : worth u < worth (u + 1) := by
  obtain ⟨e, c, rfl, hc, hl, hw⟩ := worth_split u
  rw [hw, Nat.add_assoc, worth_at (by omega) (by intro h; have := hl h; omega)]
  exact Nat.mul_lt_mul_of_pos_right (by omega) (Nat.pow_pos (by omega))
theorem worth_mono {u v : Nat} (h : u ≤ v) : worth u ≤ worth v := by
  induction v with
  | zero => have : u = 0 := by omega
            subst this; exact Nat.le_refl _
  | succ v ih =>
    rcases Nat.lt_or_eq_of_le h with h1 | h1
    · exact Nat.le_trans (ih (by omega)) (Nat.le_of_lt (worth_step v))
    · subst h1; exact Nat.le_refl _
theorem worth_lt {u v : Nat} (h : u < v) : worth u < worth v := Nat.lt_of_lt_of_le (worth_step u) (worth_mono h)

/-- A number of 64 bits is the nearest one to itself. -/
theorem dbl_worth {u : Nat} (h0 : u ≠ 0) (h : u < 9218868437227405312) : dbl (worth u) (2 ^ el) = u := by
  obtain ⟨e, c, rfl, hc, hl, hw⟩ := worth_split u
  have he : e ≤ 2045 := by
    rcases Nat.lt_or_ge 2045 e with h1 | h1
    · have := hl (by omega)
      omega
    · exact h1
  have hc0 : c ≠ 0 := by
    intro h1
    rcases Nat.eq_zero_or_pos e with h2 | h2
    · subst h1 h2; exact h0 rfl
    · have := hl (by omega); omega
  rw [hw]
  have hpe := Nat.pow_pos (n := e) (show 0 < 2 by omega)
  have hb1 := (Nat.le_log2 hc0).1 (Nat.le_refl _)
  have hb2 := (Nat.log2_lt hc0).1 (Nat.lt_succ_self _)
  have hlog : Nat.log2 c ≤ 52 := by
    have := (Nat.log2_lt (k := 53) hc0).2 (by rw [show (2 : Nat) ^ 53 = 9007199254740992 from rfl]; exact hc)
    omega
  have hlog2 : e ≠ 0 → Nat.log2 c = 52 := by
    intro h1
    have := (Nat.le_log2 (k := 52) hc0).2 (by rw [show (2 : Nat) ^ 52 = 4503599627370496 from rfl]; exact hl h1)
    omega
  generalize hL : Nat.log2 c = L at *
  have hlg : lg (c * 2 ^ e) (2 ^ el) = eb + e + L := by
    refine lg_is (Nat.pow_pos (by omega)) ?_ ?_
    · rw [← Nat.pow_add, Nat.mul_assoc, ← Nat.pow_add, show el + (eb + e + L) = L + (e + em) by have := em_split; omega, Nat.pow_add 2 L]
      exact Nat.mul_le_mul_right _ hb1
    · rw [← Nat.pow_add, Nat.mul_assoc, ← Nat.pow_add, show el + (eb + e + L + 1) = (L + 1) + (e + em) by have := em_split; omega, Nat.pow_add 2 (L + 1)]
      exact Nat.mul_lt_mul_of_pos_right hb2 (Nat.pow_pos (by omega))
  have heb := eb_eq
  have hun : un (eb + e + L) = eb + e := by
    rw [un_eq]
    by_cases h1 : e = 0
    · omega
    · have := hlog2 h1; omega
  unfold dbl
  rw [hlg, if_neg (by omega), hun]
  have e1 : 2 ^ el * 2 ^ (eb + e) = 2 ^ (e + em) := by rw [← Nat.pow_add]; congr 1; have := em_split; omega
  rw [e1, Nat.mul_assoc, ← Nat.pow_add, rq_exact (Nat.pow_pos (by omega)), show eb + e - eb = e by omega]

/-- How far two naturals are. -/
def dist (a b : Nat) : Nat := (a - b) + (b - a)
theorem worth_up {e c v : Nat} (hc : c ≤ 9007199254740992) (h2 : e ≠ 0 → 4503599627370496 ≤ c) (h : 4503599627370496 * e + c < v) : (c + 1) * 2 ^ e ≤ worth v := by
  refine Nat.le_trans ?_ (worth_mono (show 4503599627370496 * e + c + 1 ≤ v from h))
  by_cases h3 : c = 9007199254740992
  · subst h3
    rw [show 4503599627370496 * e + 9007199254740992 + 1 = 4503599627370496 * (e + 1) + 4503599627370497 by omega, worth_at (by omega) (by intro _; omega), Nat.pow_succ]
    generalize 2 ^ e = P
    omega
  · rw [Nat.add_assoc, worth_at (by omega) (by intro h; have := h2 h; omega)]
    exact Nat.le_refl _
theorem worth_down {e c v : Nat} (hc : c ≤ 9007199254740992) (h2 : e ≠ 0 → 4503599627370496 < c) (h : v < 4503599627370496 * e + c) : worth v ≤ (c - 1) * 2 ^ e := by
  refine Nat.le_trans (worth_mono (show v ≤ 4503599627370496 * e + c - 1 by omega)) ?_
  have hc0 : c ≠ 0 := by
    intro h1
    rcases Nat.eq_zero_or_pos e with h3 | h3
    · subst h1 h3; omega
    · have := h2 (by omega); omega
  rw [Nat.add_sub_assoc (by omega), worth_at (by omega) (by intro h; have := h2 h; omega)]
  exact Nat.le_refl _
/-- No other one is nearer. -/
theorem dbl_near {n d : Nat} (hd : 0 < d) (hn : d ≤ n * 2 ^ em) (hk : dbl n d < 9218868437227405312) (v : Nat) :
    dist (worth (dbl n d) * d) (n * 2 ^ el) ≤ dist (worth v * d) (n * 2 ^ el) := by
  have hc := cnt hd hn
  have hlg : ¬ 5120 ≤ lg n d := by
    intro h
    unfold dbl at hk
    rw [if_pos h] at hk
    omega
  obtain ⟨e, he⟩ : ∃ e, un (lg n d) = eb + e := ⟨un (lg n d) - eb, by have := eb_eq; rw [un_eq]; omega⟩
  have ed : dbl n d = 4503599627370496 * e + rq (n * 2 ^ em) (d * 2 ^ (eb + e)) := by
    unfold dbl
    rw [if_neg hlg, he, show eb + e - eb = e by omega]
  rw [he] at hc
  have es : rq (n * 2 ^ em) (d * 2 ^ (eb + e)) = rq (n * 2 ^ el) (d * 2 ^ e) := by
    rw [em_split, Nat.pow_add 2 eb el, Nat.pow_add 2 eb e, Nat.mul_left_comm n, Nat.mul_left_comm d]
    exact rq_scale (Nat.pow_pos (by omega))
  have h52 : e ≠ 0 → 4503599627370496 * (d * 2 ^ e) ≤ n * 2 ^ el := by
    intro h
    have h1 := (hc.2 (by omega)).2
    rw [em_split, Nat.pow_add 2 eb el, Nat.pow_add 2 eb e, Nat.mul_left_comm n, Nat.mul_left_comm d, Nat.mul_left_comm] at h1
    exact Nat.le_of_mul_le_mul_left h1 (Nat.pow_pos (by omega))
  rw [es] at hc ed
  rw [ed]
  have hpos : 0 < d * 2 ^ e := Nat.mul_pos hd (Nat.pow_pos (by omega))
  have hnear := rq_near (a := n * 2 ^ el) hpos
  generalize rq (n * 2 ^ el) (d * 2 ^ e) = c at *
  generalize n * 2 ^ el = X at *
  obtain ⟨c1, c2⟩ := hc
  have c2' : e ≠ 0 → 4503599627370496 ≤ c := fun h => (c2 (by omega)).1
  rw [worth_at c1 c2']
  have e1 : c * 2 ^ e * d = c * (d * 2 ^ e) := by rw [Nat.mul_assoc, Nat.mul_comm d]
  rw [e1]
  rcases Nat.lt_trichotomy v (4503599627370496 * e + c) with h | h | h
  · by_cases h3 : e ≠ 0 ∧ c = 4503599627370496
    · have a1 := worth_mono (Nat.le_of_lt h)
      rw [worth_at c1 c2'] at a1
      have a2 := Nat.mul_le_mul_right d a1
      rw [e1] at a2
      have a3 := h52 h3.1
      rw [← h3.2] at a3
      unfold dist
      generalize c * (d * 2 ^ e) = C at *
      generalize worth v * d = V at *
      omega
    · have a1 := worth_down c1 (by intro h4; have := c2' h4; omega) h
      have a2 := Nat.mul_le_mul_right d a1
      have hc0 : c ≠ 0 := by
        intro h5
        rcases Nat.eq_zero_or_pos e with h6 | h6
        · subst h5 h6; omega
        · have := c2' (by omega); omega
      obtain ⟨c, rfl⟩ : ∃ b, c = b + 1 := ⟨c - 1, by omega⟩
      rw [Nat.add_sub_cancel, Nat.mul_assoc, Nat.mul_comm (2 ^ e)] at a2
      rw [Nat.add_mul, Nat.one_mul] at hnear ⊢
      unfold dist
      generalize c * (d * 2 ^ e) = C at *
      generalize d * 2 ^ e = D at *
      generalize worth v * d = V at *
      omega
  · subst h
    rw [worth_at c1 c2', e1]
    exact Nat.le_refl _
  · have a1 := worth_up c1 c2' h
    have a2 := Nat.mul_le_mul_right d a1
    rw [Nat.mul_assoc, Nat.mul_comm (2 ^ e), Nat.add_mul, Nat.one_mul] at a2
    unfold dist
    generalize c * (d * 2 ^ e) = C at *
    generalize d * 2 ^ e = D at *
    generalize worth v * d = V at *
    omega

/-- The highest power, as it is reckoned: by the bits, and one less where that is above. -/
theorem lg_bits {n d : Nat} (hn : n ≠ 0) (hd : d ≠ 0) (hn4 : nbits n ≤ 4000) (hd4 : nbits d ≤ 4000) {p : Int} (hp : p = (nbits n : Int) - (nbits d : Int)) :
    (lg n d : Int) = (if n * 2 ^ (-p).toNat < d * 2 ^ p.toNat then p - 1 else p) + em := by
  have bn := nbits_bounds hn
  have bd := nbits_bounds hd
  generalize nbits n = N at *
  generalize nbits d = D at *
  obtain ⟨K, hK⟩ : ∃ K, N + em = D + K := ⟨N + em - D, by have := em_eq; omega⟩
  have hem := em_eq
  have ec : (n * 2 ^ (-p).toNat < d * 2 ^ p.toNat) ↔ n * 2 ^ em < d * 2 ^ K := by
    by_cases h : 0 ≤ p
    · have e1 : (-p).toNat = 0 := by omega
      have e2 : K = p.toNat + em := by omega
      rw [e1, e2, Nat.pow_zero, Nat.mul_one, Nat.pow_add, ← Nat.mul_assoc]
      exact ⟨fun h => Nat.mul_lt_mul_of_pos_right h (Nat.pow_pos (by omega)), fun h => Nat.lt_of_mul_lt_mul_right h⟩
    · have e1 : p.toNat = 0 := by omega
      have e2 : em = (-p).toNat + K := by omega
      rw [e1, e2, Nat.pow_zero, Nat.mul_one, Nat.pow_add, ← Nat.mul_assoc]
      exact ⟨fun h => Nat.mul_lt_mul_of_pos_right h (Nat.pow_pos (by omega)), fun h => Nat.lt_of_mul_lt_mul_right h⟩
  have hNK : 2 ^ N * 2 ^ em = 2 ^ D * 2 ^ K := by rw [← Nat.pow_add, ← Nat.pow_add, hK]
  have h3 : n * 2 ^ em < 2 ^ D * 2 ^ K := by rw [← hNK]; exact Nat.mul_lt_mul_of_pos_right bn.2 (Nat.pow_pos (by omega))
  have h4 : 2 ^ D * 2 ^ K ≤ 2 * (n * 2 ^ em) := by rw [← hNK, ← Nat.mul_assoc]; exact Nat.mul_le_mul_right _ bn.1
  by_cases h : n * 2 ^ em < d * 2 ^ K
  · rw [if_pos (ec.2 h)]
    obtain ⟨k, rfl⟩ : ∃ k, K = k + 1 := ⟨K - 1, by omega⟩
    have := lg_is (k := k) (Nat.pos_of_ne_zero hd) (by
      have : d * 2 ^ k ≤ 2 ^ D * 2 ^ k := Nat.mul_le_mul_right _ (Nat.le_of_lt bd.2)
      rw [Nat.pow_succ, ← Nat.mul_assoc] at h4
      generalize 2 ^ D * 2 ^ k = Q at *
      omega) h
    rw [this]; omega
  · rw [if_neg (fun h' => h (ec.1 h'))]
    have := lg_is (k := K) (Nat.pos_of_ne_zero hd) (Nat.le_of_not_lt h) (by
      have : 2 ^ D * 2 ^ K ≤ 2 * d * 2 ^ K := Nat.mul_le_mul_right _ bd.1
      rw [Nat.pow_succ, Nat.mul_comm (2 ^ K), ← Nat.mul_assoc, Nat.mul_comm d]
      exact Nat.lt_of_lt_of_le h3 this)
    rw [this]; omega

/-- The count, as it is reckoned: with the places on the numerator or the denominator. -/
theorem rq_unit {n d : Nat} {i : Int} {U : Nat} (h : (U : Int) = i + em) : rq (n * 2 ^ (-i).toNat) (d * 2 ^ i.toNat) = rq (n * 2 ^ em) (d * 2 ^ U) := by
  by_cases h0 : 0 ≤ i
  · have e1 : (-i).toNat = 0 := by omega
    have e2 : U = em + i.toNat := by omega
    rw [e1, e2, Nat.pow_zero, Nat.mul_one, Nat.pow_add, Nat.mul_left_comm, Nat.mul_comm n, rq_scale (Nat.pow_pos (by omega))]
  · have e1 : i.toNat = 0 := by omega
    have e2 : em = U + (-i).toNat := by omega
    rw [e1, Nat.pow_zero, Nat.mul_one, e2, Nat.pow_add, Nat.mul_left_comm, Nat.mul_comm d, rq_scale (Nat.pow_pos (by omega))]
end Go.Proofs.Ytplpkojikgeamaa

namespace Go.Proofs.Ytplpkojikgeamaa
set_option maxRecDepth 20000
open Go.RowKit

theorem bits64 (b : Nat) (w : World) : (callFunc 25 #[.float .f64 b]).run Try.prog w = .ok (.value (.int .u64 b)) w := by
  rw [run_callFunc_extern Try.func25 (by kernel_rfl) (by kernel_rfl) (by kernel_rfl) (e := Extern.MathFloatBits.float64bits) (by kernel_rfl)]; rfl
theorem frombits64 (n : Int) (w : World) : (callFunc 26 #[.int .u64 n]).run Try.prog w = .ok (.value (.float .f64 n.toNat)) w := by
  rw [run_callFunc_extern Try.func26 (by kernel_rfl) (by kernel_rfl) (by kernel_rfl) (e := Extern.MathFloatBits.float64frombits) (by kernel_rfl)]; rfl

/-- The bits by their parts: the sign, the exponent's, the fraction's. -/
structure Parts (u : Nat) (s : Bool) (e m : Nat) : Prop where
  eq : u = (if s then 9223372036854775808 else 0) + (4503599627370496 * e + m)
  exp : e < 2048
  frac : m < 4503599627370496
theorem Parts.lt {u : Nat} {s : Bool} {e m : Nat} (h : Parts u s e m) : u < 18446744073709551616 := by
  have h1 := h.exp
  have h2 := h.frac
  rw [h.eq]
  split <;> omega
theorem parts_of {u : Nat} (h : u < 18446744073709551616) : ∃ s e m, Parts u s e m := by
  refine ⟨decide (9223372036854775808 ≤ u), u % 9223372036854775808 / 4503599627370496, u % 4503599627370496, ?_, by omega, by omega⟩
  by_cases h1 : 9223372036854775808 ≤ u
  · rw [decide_eq_true h1, if_pos rfl]; omega
  · rw [decide_eq_false h1, if_neg (by simp)]; omega
theorem Parts.sign {u : Nat} {s : Bool} {e m : Nat} (h : Parts u s e m) : u / 9223372036854775808 = (if s then 1 else 0) := by
  have h1 := h.exp
  have h2 := h.frac
  rw [h.eq]
  split <;> omega
theorem Parts.e_of {u : Nat} {s : Bool} {e m : Nat} (h : Parts u s e m) : u / 4503599627370496 % 2048 = e := by
  have h1 := h.exp
  have h2 := h.frac
  rw [h.eq]
  split <;> omega
theorem Parts.m_of {u : Nat} {s : Bool} {e m : Nat} (h : Parts u s e m) : u % 4503599627370496 = m := by
  have h1 := h.exp
  have h2 := h.frac
  rw [h.eq]
  split <;> omega
theorem and_sign {u : Nat} (h : u < 18446744073709551616) : bits BinOp.and IntKind.u64 (u : Int) 9223372036854775808 = ((u / 9223372036854775808 * 9223372036854775808 : Nat) : Int) := by
  have h1 := bits_and_u64_nat u 9223372036854775808 h (by omega)
  refine h1.trans ?_
  congr 1
  have e63 : (9223372036854775808 : Nat) = 2 ^ 63 := rfl
  have hb : u.testBit 63 = decide (u / 9223372036854775808 = 1) := by
    rw [Nat.testBit_eq_decide_div_mod_eq, ← e63]
    congr 1
    exact propext ⟨fun _ => by omega, fun _ => by omega⟩
  by_cases h3 : u / 9223372036854775808 = 1
  · rw [h3, Nat.one_mul, e63]
    refine Nat.eq_of_testBit_eq fun i => ?_
    rw [Nat.testBit_and, Nat.testBit_two_pow]
    by_cases hi : 63 = i
    · subst hi; rw [hb, decide_eq_true h3]; rfl
    · rw [decide_eq_false hi, Bool.and_false]
  · have h4 : u / 9223372036854775808 = 0 := by omega
    rw [h4, Nat.zero_mul, e63]
    refine Nat.eq_of_testBit_eq fun i => ?_
    rw [Nat.testBit_and, Nat.testBit_two_pow, Nat.zero_testBit]
    by_cases hi : 63 = i
    · subst hi; rw [hb, decide_eq_false h3]; rfl
    · rw [decide_eq_false hi, Bool.and_false]
theorem and_exp {x : Nat} (h : x < 18446744073709551616) : bits BinOp.and IntKind.u64 (x : Int) 2047 = ((x % 2048 : Nat) : Int) := by
  have h1 := bits_and_u64_nat x 2047 h (by omega)
  rw [show (2047 : Nat) = 2 ^ 11 - 1 from rfl, Nat.and_two_pow_sub_one_eq_mod] at h1
  exact h1
theorem and_frac {x : Nat} (h : x < 18446744073709551616) : bits BinOp.and IntKind.u64 (x : Int) 4503599627370495 = ((x % 4503599627370496 : Nat) : Int) := by
  have h1 := bits_and_u64_nat x 4503599627370495 h (by omega)
  rw [show (4503599627370495 : Nat) = 2 ^ 52 - 1 from rfl, Nat.and_two_pow_sub_one_eq_mod] at h1
  exact h1

set_option maxHeartbeats 400000 in
theorem Bits64_c (u : Nat) (s : Bool) (e m : Nat) (w : World) (h : Parts u s e m) :
    Calls Try.prog 49 #[.float .f64 u] w fun r w' => r = .returned (.tuple #[.bool s, .int .i64 (e : Int), .int .u64 (m : Int)]) ∧ w = w' := by
  have hb := bits64 u
  have h1 := and_sign h.lt
  have h2 : bits BinOp.and IntKind.u64 ((u : Int) / 4503599627370496) 2047 = (e : Int) := by
    have := and_exp (x := u / 4503599627370496) (by have := h.lt; omega)
    rw [h.e_of] at this
    exact this
  have h3 : bits BinOp.and IntKind.u64 (u : Int) 4503599627370495 = (m : Int) := by rw [and_frac h.lt, h.m_of]
  have h4 : (bits BinOp.and IntKind.u64 (u : Int) 9223372036854775808 != 0) = s := by
    rw [h1, h.sign]
    cases s <;> rfl
  have hlt := h.lt
  have he := h.exp
  clear h1 h
  go_enter Try.func49, Try.ntmps49
  go_wp2
  go_ret3
  exact ⟨by rw [← h4]; rfl, rfl⟩

set_option maxHeartbeats 400000 in
theorem rBits64_c (u : Nat) (s : Bool) (e m : Nat) (w : World) (h : Parts u s e m) :
    Calls Try.prog 48 #[.float .f64 u] w fun r w' => r = .returned (.tuple #[.bool s, .int .i64 (e : Int), .int .u64 (m : Int)]) ∧ w = w' := by
  have hb := bits64 u
  have h2 : bits BinOp.and IntKind.u64 ((u : Int) / 4503599627370496) 2047 = (e : Int) := by
    have := and_exp (x := u / 4503599627370496) (by have := h.lt; omega)
    rw [h.e_of] at this
    exact this
  have h3 : bits BinOp.and IntKind.u64 (u : Int) 4503599627370495 = (m : Int) := by rw [and_frac h.lt, h.m_of]
  have h4 : (((u : Int) / 9223372036854775808) == 1) = s := by
    have e1 : (u : Int) / 9223372036854775808 = ((u / 9223372036854775808 : Nat) : Int) := by omega
    rw [e1, h.sign]
    cases s <;> rfl
  have hlt := h.lt
  have he := h.exp
  clear h
  go_enter Try.func48, Try.ntmps48
  go_wp2
  go_ret3
  exact ⟨by rw [← h4]; rfl, rfl⟩

/-- The kind of a number. -/
def kd (s : Bool) (e m : Nat) : Nat := if e = 2047 then (if m ≠ 0 then 5 else if s then 4 else 3) else if e = 0 ∧ m = 0 then (if s then 2 else 1) else 0

set_option maxHeartbeats 400000 in
theorem signed_c (s : Bool) (x y : Int) (w : World) :
    Calls Try.prog 50 #[.bool s, .int .i64 x, .int .i64 y] w fun r w' => r = .returned (.int .i64 (if s then y else x)) ∧ w = w' := by
  cases s
  all_goals
    go_enter Try.func50, Try.ntmps50
    go_wp2
    go_ret
    exact ⟨rfl, rfl⟩

set_option maxHeartbeats 1000000 in
theorem Kind_c (u : Nat) (s : Bool) (e m : Nat) (w : World) (h : Parts u s e m) :
    Calls Try.prog 21 #[.float .f64 u] w fun r w' => r = .returned (.int .i64 (kd s e m : Nat)) ∧ w = w' := by
  have H := Lib.hid h
  by_cases h1 : e = 2047
  · have f1 : ((e : Int) == 2047) = true := by rw [beq_iff_eq]; omega
    by_cases h2 : m = 0
    · have f2 : ((m : Int) != 0) = false := by rw [bne_eq_false_iff_eq]; omega
      have E : kd s e m = if s then 4 else 3 := by unfold kd; rw [if_pos h1, if_neg (by omega)]
      rw [E]
      clear E h1 h2 h
      cases s
      all_goals
        go_enter Try.func21, Try.ntmps21
        go_wp2_with fail
        refine (Bits64_c u _ e m _ H.out).mono ?_
        rintro r w' ⟨rfl, rfl⟩
        go_wp2_with fail
        refine (signed_c _ 3 4 _).mono ?_
        rintro r w' ⟨rfl, rfl⟩
        go_wp2
        go_ret
        exact ⟨rfl, rfl⟩
    · have f2 : ((m : Int) != 0) = true := by rw [bne_iff_ne]; omega
      have E : kd s e m = 5 := by unfold kd; rw [if_pos h1, if_pos h2]
      rw [E]
      clear E h1 h2 h
      go_enter Try.func21, Try.ntmps21
      go_wp2_with fail
      refine (Bits64_c u s e m _ H.out).mono ?_
      rintro r w' ⟨rfl, rfl⟩
      go_wp2
      go_ret
      exact ⟨rfl, rfl⟩
  · have f1 : ((e : Int) == 2047) = false := by rw [beq_eq_false_iff_ne]; omega
    by_cases h2 : e = 0
    · have f2 : ((e : Int) == 0) = true := by rw [beq_iff_eq]; omega
      by_cases h3 : m = 0
      · have f3 : ((m : Int) == 0) = true := by rw [beq_iff_eq]; omega
        have E : kd s e m = if s then 2 else 1 := by unfold kd; rw [if_neg h1, if_pos ⟨h2, h3⟩]
        rw [E]
        clear E h1 h2 h3 h
        cases s
        all_goals
          go_enter Try.func21, Try.ntmps21
          go_wp2_with fail
          refine (Bits64_c u _ e m _ H.out).mono ?_
          rintro r w' ⟨rfl, rfl⟩
          go_wp2_with fail
          refine (signed_c _ 1 2 _).mono ?_
          rintro r w' ⟨rfl, rfl⟩
          go_wp2
          go_ret
          exact ⟨rfl, rfl⟩
      · have f3 : ((m : Int) == 0) = false := by rw [beq_eq_false_iff_ne]; omega
        have E : kd s e m = 0 := by unfold kd; rw [if_neg h1, if_neg (fun h => h3 h.2)]
        rw [E]
        clear E h1 h2 h3 h
        go_enter Try.func21, Try.ntmps21
        go_wp2_with fail
        refine (Bits64_c u s e m _ H.out).mono ?_
        rintro r w' ⟨rfl, rfl⟩
        go_wp2
        go_ret
        exact ⟨rfl, rfl⟩
    · have f2 : ((e : Int) == 0) = false := by rw [beq_eq_false_iff_ne]; omega
      have E : kd s e m = 0 := by unfold kd; rw [if_neg h1, if_neg (fun h => h2 h.1)]
      rw [E]
      clear E h1 h2 h
      go_enter Try.func21, Try.ntmps21
      go_wp2_with fail
      refine (Bits64_c u s e m _ H.out).mono ?_
      rintro r w' ⟨rfl, rfl⟩
      go_wp2
      go_ret
      exact ⟨rfl, rfl⟩

set_option maxHeartbeats 1000000 in
theorem rKind_c (u : Nat) (s : Bool) (e m : Nat) (w : World) (h : Parts u s e m) :
    Calls Try.prog 53 #[.float .f64 u] w fun r w' => r = .returned (.int .i64 (kd s e m : Nat)) ∧ w = w' := by
  have H := Lib.hid h
  by_cases h1 : e = 2047
  · have f1 : ((e : Int) == 2047) = true := by rw [beq_iff_eq]; omega
    by_cases h2 : m = 0
    · have f2 : ((m : Int) != 0) = false := by rw [bne_eq_false_iff_eq]; omega
      have E : kd s e m = if s then 4 else 3 := by unfold kd; rw [if_pos h1, if_neg (by omega)]
      rw [E]
      clear E h1 h2 h
      cases s
      all_goals
        go_enter Try.func53, Try.ntmps53
        go_wp2_with fail
        refine (rBits64_c u _ e m _ H.out).mono ?_
        rintro r w' ⟨rfl, rfl⟩
        go_wp2
        go_ret
        exact ⟨rfl, rfl⟩
    · have f2 : ((m : Int) != 0) = true := by rw [bne_iff_ne]; omega
      have E : kd s e m = 5 := by unfold kd; rw [if_pos h1, if_pos h2]
      rw [E]
      clear E h1 h2 h
      go_enter Try.func53, Try.ntmps53
      go_wp2_with fail
      refine (rBits64_c u s e m _ H.out).mono ?_
      rintro r w' ⟨rfl, rfl⟩
      go_wp2
      go_ret
      exact ⟨rfl, rfl⟩
  · have f1 : ((e : Int) == 2047) = false := by rw [beq_eq_false_iff_ne]; omega
    by_cases h2 : e = 0
    · have f2 : ((e : Int) == 0) = true := by rw [beq_iff_eq]; omega
      by_cases h3 : m = 0
      · have f3 : ((m : Int) == 0) = true := by rw [beq_iff_eq]; omega
        have E : kd s e m = if s then 2 else 1 := by unfold kd; rw [if_neg h1, if_pos ⟨h2, h3⟩]
        rw [E]
        clear E h1 h2 h3 h
        cases s
        all_goals
          go_enter Try.func53, Try.ntmps53
          go_wp2_with fail
          refine (rBits64_c u _ e m _ H.out).mono ?_
          rintro r w' ⟨rfl, rfl⟩
          go_wp2
          go_ret
          exact ⟨rfl, rfl⟩
      · have f3 : ((m : Int) == 0) = false := by rw [beq_eq_false_iff_ne]; omega
        have E : kd s e m = 0 := by unfold kd; rw [if_neg h1, if_neg (fun h => h3 h.2)]
        rw [E]
        clear E h1 h2 h3 h
        go_enter Try.func53, Try.ntmps53
        go_wp2_with fail
        refine (rBits64_c u s e m _ H.out).mono ?_
        rintro r w' ⟨rfl, rfl⟩
        go_wp2
        go_ret
        exact ⟨rfl, rfl⟩
    · have f2 : ((e : Int) == 0) = false := by rw [beq_eq_false_iff_ne]; omega
      have E : kd s e m = 0 := by unfold kd; rw [if_neg h1, if_neg (fun h => h2 h.1)]
      rw [E]
      clear E h1 h2 h
      go_enter Try.func53, Try.ntmps53
      go_wp2_with fail
      refine (rBits64_c u s e m _ H.out).mono ?_
      rintro r w' ⟨rfl, rfl⟩
      go_wp2
      go_ret
      exact ⟨rfl, rfl⟩
end Go.Proofs.Ytplpkojikgeamaa

namespace Go.Proofs.Ytplpkojikgeamaa
set_option maxRecDepth 20000
open Go.RowKit

theorem pow_limb (p : Nat) : (4294967296 : Nat) ^ p = 2 ^ (32 * p) := (Nat.pow_mul 2 32 p).symm
theorem Bd.pow {k p : Nat} (h : k < 32 * p) : Bd (2 ^ k) p := by
  show 2 ^ k < 4294967296 ^ p
  rw [pow_limb]
  exact Nat.pow_lt_pow_right (by omega) h
theorem Bd.shl {x p k : Nat} (hx : Bd x p) (h : k ≤ 4096) : Bd (x * 2 ^ k) (p + 129) := hx.mul (Bd.pow (by omega))
theorem Bd.bits {x p : Nat} (h0 : x ≠ 0) (h : Bd x p) : nbits x ≤ 32 * p := by
  have h1 := (nbits_bounds h0).1
  have h2 : x < 2 ^ (32 * p) := by rw [← pow_limb]; exact h
  have h3 : 2 ^ nbits x < 2 ^ (32 * p + 1) := by rw [Nat.pow_succ]; omega
  have := (Nat.pow_lt_pow_iff_right (show 1 < 2 by omega)).1 h3
  omega
theorem Bd.em {x y p : Nat} (h0 : x ≠ 0) (h : Bd y p) (hp : p ≤ 128) : y ≤ x * 2 ^ em := by
  have h2 : y < 2 ^ (32 * p) := by rw [← pow_limb]; exact h
  have h3 : 2 ^ (32 * p) ≤ 2 ^ Go.Proofs.Ytplpkojikgeamaa.em := Nat.pow_le_pow_right (by omega) (by rw [em_eq]; omega)
  have h4 : 1 * 2 ^ Go.Proofs.Ytplpkojikgeamaa.em ≤ x * 2 ^ Go.Proofs.Ytplpkojikgeamaa.em := Nat.mul_le_mul_right _ (by omega)
  rw [Nat.one_mul] at h4
  exact Nat.le_trans (Nat.le_of_lt h2) (Nat.le_trans h3 h4)

theorem sh_up {x : Nat} {i : Int} (h : 0 ≤ i) (hi : i ≤ 4096) : sh x i = x * 2 ^ i.toNat := by
  have e : held i = i := by unfold held; omega
  unfold sh
  rw [e, if_neg (by omega)]
theorem sh_down {x : Nat} {i : Int} (h : i < 0) (hi : -4096 ≤ i) : sh x i = x / 2 ^ (-i).toNat := by
  have e : held i = i := by unfold held; omega
  unfold sh
  rw [e, if_pos (by omega)]

set_option maxHeartbeats 400000 in
theorem doubled_c (A : Option Addr) (n c : Nat) (a : List Nat) (i : Int) (x : Nat) (w : World) (hn : n ≤ 100000) (hcn : n ≤ c) (ha : Row w 0 A n a) (hi : -4096 ≤ i ∧ i ≤ 4096) (hx : val a * 2 ^ i.toNat = x) :
    Calls Try.prog 78 #[.slice A n c, .int .i64 i] w fun e w' => ∃ A2 c2, e = .returned (.slice A2 (lim x).length c2) ∧ Own w' w.heap.size A2 c2 (lim x).length (lim x) ∧ Below w.heap.size w w' := by
  have E : Hid (sh (val a) (max i 0) = x) := by show _ = _; rw [sh_up (by omega) (by omega), ← hx]; congr 2; omega
  clear hx
  go_enter Try.func78, Try.ntmps78
  go_wp2_with fail
  refine (Shift_any A n c a _ _ hn hcn ha (by omega)).mono ?_
  rintro e w1 ⟨A2, c2, rfl, ho, hb⟩
  rw [E.out] at ho ⊢
  have HO := Lib.hid ho
  clear ho
  go_wp2
  go_ret
  exact ⟨A2, c2, rfl, HO.out, hb⟩

set_option maxHeartbeats 1000000 in
theorem highest_c (A B : Option Addr) (n m c d x y : Nat) (a b : List Nat) (w : World) (hn : n ≤ 10000) (hm : m ≤ 10000) (hcn : n ≤ c) (hdm : m ≤ d) (ha : Row w 0 A n a) (hb : Row w 0 B m b) (hx : val a = x) (hy : val b = y)
    (hx0 : x ≠ 0) (hy0 : y ≠ 0) (bx : Bd x 125) (bY : Bd y 125) :
    Calls Try.prog 76 #[.slice A n c, .slice B m d] w fun e w' => e = .returned (.int .i64 ((lg x y : Nat) - 4096 : Int)) ∧ Below w.heap.size w w' := by
  obtain ⟨P, hP⟩ : ∃ P : Int, P = (nbits x : Int) - (nbits y : Int) := ⟨_, rfl⟩
  have nx := bx.bits hx0
  have ny := bY.bits hy0
  have hl := lg_bits hx0 hy0 nx ny hP
  rw [em_eq] at hl
  have hBx := Lib.hid (bx.shl (k := (-P).toNat) (by omega))
  have hBy := Lib.hid (bY.shl (k := P.toNat) (by omega))
  have hbits := Lib.hid (fun (w : World) (h : Row w 0 A n a) => by
    have h1 := Bits_any A n c a w (by omega) hcn h
    rw [hx] at h1
    exact h1)
  have hbits2 := Lib.hid (fun (w : World) (h : Row w 0 B m b) => by
    have h1 := Bits_any B m d b w (by omega) hdm h
    rw [hy] at h1
    exact h1)
  have HX : Hid (val a * 2 ^ (-P).toNat = x * 2 ^ (-P).toNat) := by show _ = _; rw [hx]
  have HY : Hid (val b * 2 ^ P.toNat = y * 2 ^ P.toNat) := by show _ = _; rw [hy]
  have HL : Hid ((lg x y : Int) = (if x * 2 ^ (-P).toNat < y * 2 ^ P.toNat then P - 1 else P) + (4096 : Nat)) := hl
  have hP1 : -4000 ≤ P ∧ P ≤ 4000 := by omega
  clear hl hx hy hx0 hy0 bx bY
  generalize nbits x = N at *
  generalize nbits y = D at *
  go_enter Try.func76, Try.ntmps76
  go_wp2_with fail
  refine (hbits.out _ ha).mono ?_
  rintro e w' ⟨rfl, rfl⟩
  go_wp2_with fail
  refine (hbits2.out _ hb).mono ?_
  rintro e w' ⟨rfl, rfl⟩
  clear hbits hbits2
  go_wp2_with fail
  rw [← hP]
  clear hP
  refine (doubled_c A n c a _ _ _ (by omega) hcn ha (by omega) HX.out).mono ?_
  rintro e w1 ⟨A1, c1, rfl, ho1, hb1⟩
  have r1 := ho1.row.lower (Nat.zero_le _)
  have k1 := ho1.capLe
  replace hb := hb.below hb1
  clear ho1
  go_wp2_with fail
  refine (doubled_c B m d b _ _ _ (by omega) hdm hb (by omega) HY.out).mono ?_
  rintro e w2 ⟨A2, c2, rfl, ho2, hb2⟩
  have r2 := ho2.row.lower (Nat.zero_le _)
  have k2 := ho2.capLe
  replace r1 := r1.below hb2
  have HB := hb1.trans (hb2.mono hb1.size)
  clear ho2 hb1 hb2 ha hb
  have l1 := hBx.out.len
  have l2 := hBy.out.len
  clear HX HY hBx hBy
  generalize x * 2 ^ (-P).toNat = X at *
  generalize y * 2 ^ P.toNat = Y at *
  go_wp2_with fail
  refine (Cmp_any A1 A2 _ _ c1 c2 _ _ _ (by omega) (by omega) k1 k2 r1 r2).mono ?_
  rintro e w3 ⟨rfl, q, rfl⟩
  replace HB := HB.trans (below_drewN' _ _ q)
  clear r1 r2 l1 l2
  rw [val_lim, val_lim]
  by_cases h : X < Y
  · rw [cmpI_lt h]
    have E : Hid ((lg x y : Int) - 4096 = P - 1) := by show _ = _; rw [HL.out, if_pos h]; omega
    clear HL h
    go_wp2
    go_ret
    exact ⟨by rw [E.out]; rfl, HB⟩
  · have E : Hid ((lg x y : Int) - 4096 = P) := by show _ = _; rw [HL.out, if_neg h]; omega
    have h2 : ¬ cmpI X Y < 0 := by unfold cmpI; rw [if_neg h]; split <;> omega
    clear HL h
    generalize cmpI X Y = z at *
    go_wp2
    go_ret
    exact ⟨by rw [E.out]; rfl, HB⟩

set_option maxHeartbeats 1000000 in
theorem rounded_c (A B : Option Addr) (n m c d x y : Nat) (a b : List Nat) (w : World) (hn : n ≤ 10000) (hm : m ≤ 10000) (hcn : n ≤ c) (hdm : m ≤ d) (ha : Row w 0 A n a) (hb : Row w 0 B m b) (hx : val a = x) (hy : val b = y)
    (hy0 : 0 < y) (hq : x / y < 18446744073709551615) :
    Calls Try.prog 77 #[.slice A n c, .slice B m d] w fun e w' => e = .returned (.int .u64 (rq x y : Nat)) ∧ Below w.heap.size w w' := by
  have hrl := Lib.hid (show (lim (x % y)).length ≤ m by
    have h1 : x % y < y := Nat.mod_lt _ hy0
    rw [← hy] at h1 ⊢
    exact ((hb.bd (Nat.le_refl _)).le (Nat.le_of_lt h1)).len)
  have hql : Hid ((lim (x / y)).length ≤ 2) := lim_len_lt (by have : (4294967296 : Nat) ^ 2 = 18446744073709551616 := rfl; omega)
  have hcmp := Lib.hid (fun (X : Option Addr) (p cx : Nat) (l : List Nat) (w : World) (h1 : p ≤ 1000000) (h2 : p ≤ cx) (h3 : Row w 0 X p l) (h4 : Row w 0 B m b) => by
    have h := Cmp_any X B p m cx d l b w h1 (by omega) h2 hdm h3 h4
    rw [hy] at h
    exact h)
  have HR : Hid (∀ Q, Q = rq x y ↔ Q = if y < 2 * (x % y) ∨ (2 * (x % y) = y ∧ x / y % 2 = 1) then x / y + 1 else x / y) := fun Q => Iff.rfl
  go_enter Try.func77, Try.ntmps77
  go_wp2_with fail
  refine (DivMod_pos A B n m c d x y a b _ (by omega) (by omega) hcn hdm ha hb hx hy hy0).mono ?_
  rintro e w1 ⟨X2, c2, Y2, d2, rfl, hoq, hor, hb1⟩
  have rq1 := hoq.row.lower (Nat.zero_le _)
  have rr1 := hor.row.lower (Nat.zero_le _)
  have kq := hoq.capLe
  have kr := hor.capLe
  replace hb := hb.below hb1
  clear hoq hor ha hx hy
  have hx := HR.out
  clear HR
  generalize x / y = q at *
  generalize x % y = r at *
  go_wp2_with fail
  refine (To_yes X2 _ c2 _ _ (by have := hql.out; omega) kq rq1 (by rw [val_lim]; exact hql.out)).mono ?_
  rintro e w' ⟨rfl, rfl⟩
  rw [val_lim]
  clear hql rq1 kq
  have hrl' := hrl.out
  go_wp2_with fail
  refine (Add_any Y2 Y2 _ _ d2 d2 _ _ _ (by omega) (by omega) kr kr rr1 rr1).mono ?_
  rintro e w2 ⟨A3, c3, rfl, ho3, hb2⟩
  rw [val_lim] at ho3 ⊢
  have r3 := ho3.row.lower (Nat.zero_le _)
  have k3 := ho3.capLe
  replace hb := hb.below hb2
  have HB := hb1.trans (hb2.mono hb1.size)
  have l3 : (lim (r + r)).length ≤ m + 1 := by
    have h1 : Bd r m := Bd.ofLen hrl'
    have := (h1.add h1).len
    omega
  clear ho3 hb1 hb2 rr1 kr hrl hrl'
  go_wp2_with fail
  refine (hcmp.out A3 _ c3 _ _ (by omega) k3 r3 hb).mono ?_
  rintro e w3 ⟨rfl, g, rfl⟩
  replace HB := HB.trans (below_drewN' _ _ g)
  rw [val_lim]
  clear r3 k3 l3 hb hcmp
  rcases Nat.lt_trichotomy y (r + r) with h | h | h
  · rw [cmpI_gt h]
    have E := (hx _).2 (if_pos (.inl (by omega))).symm
    have E' := Lib.hid E
    clear E hx h hy0
    go_wp2
    go_ret
    rw [← E'.out]
    exact ⟨rfl, HB⟩
  · rw [cmpI_eq h.symm]
    by_cases h2 : q % 2 = 1
    · have f2 : ((q : Int) % 2 == 1) = true := by rw [beq_iff_eq]; omega
      have E := (hx _).2 (if_pos (.inr ⟨by omega, h2⟩)).symm
      have E' := Lib.hid E
      clear E hx h h2 hy0
      go_wp2
      go_ret
      rw [← E'.out]
      exact ⟨rfl, HB⟩
    · have f2 : ((q : Int) % 2 == 1) = false := by rw [beq_eq_false_iff_ne]; omega
      have E := (hx _).2 (if_neg (by omega)).symm
      have E' := Lib.hid E
      clear E hx h h2 hy0
      go_wp2
      go_ret
      rw [← E'.out]
      exact ⟨rfl, HB⟩
  · rw [cmpI_lt h]
    have E := (hx _).2 (if_neg (by omega)).symm
    have E' := Lib.hid E
    clear E hx h hy0
    go_wp2
    go_ret
    rw [← E'.out]
    exact ⟨rfl, HB⟩

/-- What the last steps need: the place, and the count. -/
theorem dbl_unit {x y : Nat} (hx0 : x ≠ 0) (bY : Bd y 125) (hy0 : y ≠ 0) (h : ¬ 5120 ≤ lg x y) :
    ∃ (i : Int) (E : Nat), i = max ((lg x y : Int) - 4096 - 52) (-1074) ∧ i = (E : Int) - 1074 ∧ E ≤ 2045 ∧
      dbl x y = 4503599627370496 * E + rq (x * 2 ^ (-i).toNat) (y * 2 ^ i.toNat) ∧ rq (x * 2 ^ (-i).toNat) (y * 2 ^ i.toNat) ≤ 9007199254740992 ∧ 0 < y * 2 ^ i.toNat ∧ (E ≠ 0 → 4503599627370496 ≤ rq (x * 2 ^ (-i).toNat) (y * 2 ^ i.toNat)) := by
  obtain ⟨i, hi⟩ : ∃ i : Int, i = max ((lg x y : Int) - 4096 - 52) (-1074) := ⟨_, rfl⟩
  have hu : (un (lg x y) : Int) = i + em := by rw [un_eq, em_eq]; omega
  have hr := rq_unit (n := x) (d := y) hu
  have hc := cnt (Nat.pos_of_ne_zero hy0) (Bd.em hx0 bY (by omega))
  refine ⟨i, un (lg x y) - eb, hi, ?_, ?_, ?_, ?_, Nat.mul_pos (Nat.pos_of_ne_zero hy0) (Nat.pow_pos (by omega)), ?_⟩
  · have h1 := em_eq
    have h2 := eb_eq
    omega
  · rw [un_eq, eb_eq]; omega
  · unfold dbl
    rw [if_neg h, hr]
  · rw [hr]; exact hc.1
  · intro h3
    rw [hr]
    exact (hc.2 (by omega)).1
theorem rq_div (x y : Nat) : x / y ≤ rq x y := by unfold rq; split <;> omega
end Go.Proofs.Ytplpkojikgeamaa

namespace Go.Proofs.Ytplpkojikgeamaa
set_option maxRecDepth 20000
open Go.RowKit

/-- The bits of the number of 64 bits that is told of a rational. -/
def tf (s : Bool) (x y : Nat) : Nat := if x = 0 ∨ y = 0 then 0 else if dbl x y = 0 then 0 else (if s then 9223372036854775808 else 0) + dbl x y
def tof (r : Rat) : Nat := tf (decide (r.num < 0)) r.num.natAbs r.den
theorem tof_rn (s : Bool) (x y : Nat) : tof (rn s x y) = tf s x y := by
  by_cases h : x = 0 ∨ y = 0
  · rw [rn_zero h]
    unfold tf
    rw [if_pos h]
    rfl
  · have hx : x ≠ 0 := fun e => h (.inl e)
    have hy : y ≠ 0 := fun e => h (.inr e)
    unfold tof
    rw [rn_sign hx hy, rn_abs hy, rn_den hy]
    have hg : 0 < Nat.gcd x y := Nat.gcd_pos_of_pos_left _ (Nat.pos_of_ne_zero hx)
    have e1 : dbl (x / Nat.gcd x y) (y / Nat.gcd x y) = dbl x y := by
      have := dbl_scale (n := x / Nat.gcd x y) (d := y / Nat.gcd x y) hg
      rw [Nat.mul_div_cancel' (Nat.gcd_dvd_left x y), Nat.mul_div_cancel' (Nat.gcd_dvd_right x y)] at this
      exact this.symm
    have hx' : x / Nat.gcd x y ≠ 0 := by
      have := Nat.div_pos (Nat.le_of_dvd (Nat.pos_of_ne_zero hx) (Nat.gcd_dvd_left x y)) hg
      omega
    have hy' : y / Nat.gcd x y ≠ 0 := by
      have := Nat.div_pos (Nat.le_of_dvd (Nat.pos_of_ne_zero hy) (Nat.gcd_dvd_right x y)) hg
      omega
    unfold tf
    rw [if_neg (fun h => h.elim hx' hy'), if_neg h, e1]

theorem or_sign {u : Nat} (h : u < 9223372036854775808) : bits BinOp.or IntKind.u64 (u : Int) 9223372036854775808 = ((9223372036854775808 + u : Nat) : Int) := by
  have h1 := bits_or_u64_nat u 9223372036854775808 (by omega) (by omega)
  rw [Nat.or_comm, nat_join 63 9223372036854775808 u (by decide) h] at h1
  exact h1

set_option maxHeartbeats 1000000 in
theorem nearest_c (A B : Option Addr) (n m c d x y : Nat) (a b : List Nat) (w : World) (hn : n ≤ 10000) (hm : m ≤ 10000) (hcn : n ≤ c) (hdm : m ≤ d) (ha : Row w 0 A n a) (hb : Row w 0 B m b) (hx : val a = x) (hy : val b = y)
    (hx0 : x ≠ 0) (hy0 : y ≠ 0) (bx : Bd x 125) (bY : Bd y 125) :
    Calls Try.prog 47 #[.slice A n c, .slice B m d] w fun e w' => e = .returned (.int .u64 (dbl x y : Nat)) ∧ Below w.heap.size w w' := by
  have hlow := Lib.hid (fun (w : World) (h1 : Row w 0 A n a) (h2 : Row w 0 B m b) => highest_c A B n m c d x y a b w hn hm hcn hdm h1 h2 hx hy hx0 hy0 bx bY)
  by_cases h : 5120 ≤ lg x y
  · have E : Hid (dbl x y = 9218868437227405312) := by show _ = _; unfold dbl; rw [if_pos h]
    generalize lg x y = L at *
    have f1 : (1023 : Int) < (L : Int) - 4096 := by omega
    clear h hx hy hx0 hy0 bx bY
    generalize (L : Int) - 4096 = P at *
    go_enter Try.func47, Try.ntmps47
    go_wp2_with fail
    refine (hlow.out _ ha hb).mono ?_
    rintro e w1 ⟨rfl, hb1⟩
    clear hlow
    go_wp2
    go_ret
    exact ⟨by rw [E.out]; rfl, hb1⟩
  · obtain ⟨i, E, hi, hiE, hE, hdbl, hcnt, hpos, _⟩ := dbl_unit hx0 bY hy0 h
    have HD : Hid (dbl x y = 4503599627370496 * E + rq (x * 2 ^ (-i).toNat) (y * 2 ^ i.toNat)) := hdbl
    have hdiv := rq_div (x * 2 ^ (-i).toNat) (y * 2 ^ i.toNat)
    clear hdbl
    generalize lg x y = L at *
    have f1 : (L : Int) - 4096 ≤ 1023 := by omega
    have f0 : -4096 ≤ (L : Int) - 4096 := by omega
    have i0 : -1074 ≤ i ∧ i ≤ 971 := by omega
    have HI := Lib.hid hiE
    clear hiE
    have HX : Hid (val a * 2 ^ (-i).toNat = x * 2 ^ (-i).toNat) := by show _ = _; rw [hx]
    have HY : Hid (val b * 2 ^ i.toNat = y * 2 ^ i.toNat) := by show _ = _; rw [hy]
    have hBx := Lib.hid (bx.shl (k := (-i).toNat) (by omega))
    have hBy := Lib.hid (bY.shl (k := i.toNat) (by omega))
    clear h hx hy hx0 hy0 bx bY
    generalize (L : Int) - 4096 = P at *
    generalize x * 2 ^ (-i).toNat = X at *
    generalize y * 2 ^ i.toNat = Y at *
    go_enter Try.func47, Try.ntmps47
    go_wp2_with fail
    refine (hlow.out _ ha hb).mono ?_
    rintro e w1 ⟨rfl, hb1⟩
    clear hlow
    replace ha := ha.below hb1
    replace hb := hb.below hb1
    go_wp2_with fail
    rw [← hi]
    clear hi
    refine (doubled_c A n c a _ _ _ (by omega) hcn ha (by omega) HX.out).mono ?_
    rintro e w2 ⟨A1, c1, rfl, ho1, hb2⟩
    have r1 := ho1.row.lower (Nat.zero_le _)
    have k1 := ho1.capLe
    replace hb := hb.below hb2
    replace hb1 := hb1.trans (hb2.mono hb1.size)
    clear ho1 hb2 ha HX
    go_wp2_with fail
    refine (doubled_c B m d b _ _ _ (by omega) hdm hb (by omega) HY.out).mono ?_
    rintro e w3 ⟨A2, c2, rfl, ho2, hb2⟩
    have r2 := ho2.row.lower (Nat.zero_le _)
    have k2 := ho2.capLe
    replace r1 := r1.below hb2
    replace hb1 := hb1.trans (hb2.mono hb1.size)
    clear ho2 hb2 hb HY
    have l1 := hBx.out.len
    have l2 := hBy.out.len
    clear hBx hBy
    go_wp2_with fail
    refine (rounded_c A1 A2 _ _ c1 c2 X Y _ _ _ (by omega) (by omega) k1 k2 r1 r2 (val_lim _) (val_lim _) hpos (by omega)).mono ?_
    rintro e w4 ⟨rfl, hb2⟩
    have HB := hb1.trans (hb2.mono hb1.size)
    have HD2 := HD.out
    clear hb1 hb2 r1 r2 k1 k2 l1 l2 hdiv HD hpos
    generalize rq X Y = C at *
    have e1 : i - (-1074) = (E : Int) := by have := HI.out; omega
    have HE : Hid (((E : Int) * 4503599627370496 + (C : Int)) = ((dbl x y : Nat) : Int)) := by show _ = _; rw [HD2]; omega
    clear HD2
    go_wp2
    go_ret
    refine ⟨?_, HB⟩
    rw [← HE.out]
    rfl

theorem dbl_lt {x y : Nat} (hx0 : x ≠ 0) (hy0 : y ≠ 0) (bY : Bd y 125) : dbl x y < 9223372036854775808 :=
  Nat.lt_of_le_of_lt (dbl_le (Nat.pos_of_ne_zero hy0) (Bd.em hx0 bY (by omega))) (by omega)

set_option maxHeartbeats 1000000 in
theorem To_c (v : Rv) (r : Rat) (w : World) (hv : Rw w v r 125) :
    Calls Try.prog 19 #[.agg #[.bool v.s, .slice v.A v.n v.c, .slice v.B v.m v.d]] w fun e w' => e = .returned (.float .f64 (tof r)) ∧ Below w.heap.size w w' := by
  have hz := Lib.hid (fun (w : World) (h : Rw w v r 125) => Zero_any v r w (h.more (by omega)))
  obtain ⟨h1, h2, h3, h4, a, b, ha, hb, hr⟩ := hv
  by_cases h0 : val a = 0 ∨ val b = 0
  · have hr0 : r = 0 := by rw [← hr]; exact rn_zero h0
    have E : Hid (tof r = 0) := by show _ = _; rw [← hr, tof_rn]; unfold tf; rw [if_pos h0]
    have hv : Rw w v r 125 := ⟨h1, h2, h3, h4, a, b, ha, hb, hr⟩
    clear ha hb hr h0
    go_enter Try.func19, Try.ntmps19
    go_wp2_with fail
    generalize hW : (w.alloc (.cells #[.bool v.s, .slice v.A v.n v.c, .slice v.B v.m v.d] 24)) = W
    obtain ⟨k, HW, hsW⟩ := open1 w v W hW
    clear hW
    refine (hz.out _ (hv.below HW)).mono ?_
    rintro e w1 ⟨rfl, hb1⟩
    rw [decide_eq_true hr0]
    have HB := HW.trans (hb1.mono (by omega))
    clear hr0 k hv hb1 HW hz
    go_wp2
    go_ret
    exact ⟨by rw [E.out]; rfl, HB⟩
  · have hx0 : val a ≠ 0 := fun e => h0 (.inl e)
    have hy0 : val b ≠ 0 := fun e => h0 (.inr e)
    have hr0 : r ≠ 0 := by rw [← hr]; exact rn_ne hx0 hy0
    have bx := ha.bd h3
    have bY := hb.bd h4
    have hv : Rw w v r 125 := ⟨h1, h2, h3, h4, a, b, ha, hb, hr⟩
    have E : Hid (tof r = if dbl (val a) (val b) = 0 then 0 else (if v.s then 9223372036854775808 else 0) + dbl (val a) (val b)) := by
      show _ = _; rw [← hr, tof_rn]; unfold tf; rw [if_neg h0]
    have hn := Lib.hid (fun (w : World) (h1' : Row w 0 v.A v.n a) (h2' : Row w 0 v.B v.m b) => nearest_c v.A v.B v.n v.m v.c v.d _ _ a b w (by omega) (by omega) h1 h2 h1' h2' rfl rfl hx0 hy0 bx bY)
    have hlt := dbl_lt hx0 hy0 bY
    have hor' := or_sign hlt
    obtain ⟨S, hS⟩ : ∃ S, S = 9223372036854775808 + dbl (val a) (val b) := ⟨_, rfl⟩
    have HS := Lib.hid hS
    have hor : bits BinOp.or IntKind.u64 ((dbl (val a) (val b) : Nat) : Int) 9223372036854775808 = (S : Int) := by rw [hS]; exact hor'
    have hSlt : S < 18446744073709551616 := by omega
    clear hS hor'
    have hfr := fun n => frombits64 n
    clear h0 hx0 hy0 bx bY hr
    generalize dbl (val a) (val b) = D at *
    go_enter Try.func19, Try.ntmps19
    go_wp2_with fail
    generalize hW : (w.alloc (.cells #[.bool v.s, .slice v.A v.n v.c, .slice v.B v.m v.d] 24)) = W
    obtain ⟨k, HW, hsW⟩ := open1 w v W hW
    clear hW
    refine (hz.out _ (hv.below HW)).mono ?_
    rintro e w1 ⟨rfl, hb1⟩
    rw [decide_eq_false hr0]
    replace k := k.below hb1
    replace HW := HW.trans (hb1.mono (by omega))
    obtain ⟨q0, q1, q2, g0, g1, g2⟩ := k.facts
    clear hr0 hv hb1 hz
    go_wp2_with fail
    refine (hn.out _ (ha.below HW) (hb.below HW)).mono ?_
    rintro e w2 ⟨rfl, hb2⟩
    clear q0 q1 q2 g0 g1 g2
    replace k := k.below hb2
    have HB := HW.trans (hb2.mono HW.size)
    obtain ⟨q0, q1, q2, g0, g1, g2⟩ := k.facts
    clear hb2 hn ha hb HW k hsW
    by_cases hD : D = 0
    · subst hD
      have E2 : Hid (tof r = 0) := by show _ = _; rw [E.out, if_pos rfl]
      clear E hor HS hlt hSlt
      cases hs : v.s
      all_goals
        rw [hs] at q0
        clear hs
        go_wp2
        go_ret
        exact ⟨by rw [E2.out]; rfl, HB⟩
    · have f1 : ((D : Int) != 0) = true := by rw [bne_iff_ne]; omega
      cases hs : v.s
      · have E2 : Hid (tof r = D) := by
          show _ = _
          have E1 := E.out
          rw [if_neg hD, hs] at E1
          exact E1.trans (Nat.zero_add D)
        rw [hs] at q0
        clear E hD HS hor hlt hSlt hs f1
        have hz : 0 ≤ (D : Int) := by omega
        have hz2 : ((D : Int)).toNat = D := by omega
        go_wp2_with fail
        go_ret
        exact ⟨by rw [E2.out]; rfl, HB⟩
      · have E2 : Hid (tof r = S) := by
          show _ = _
          have E1 := E.out
          rw [if_neg hD, hs, if_pos rfl] at E1
          rw [HS.out]
          exact E1
        rw [hs] at q0
        clear E hD HS hlt hSlt hs
        go_wp2
        go_ret
        exact ⟨by rw [E2.out]; rfl, HB⟩
end Go.Proofs.Ytplpkojikgeamaa
