/-
  Plain digits: what a text of digits is worth, the digits of a number, with noughts ahead, with a point; a text cut at a byte. No program.
-/
import Derived.Lib.ItoaNum
import Derived.Lib.TrimByte
import Derived.Lib.IndexMore
namespace Go.Proofs.YtcmomoalohibiaaGreatDoor
set_option maxRecDepth 20000
/-- What a text's digits are worth. -/
def nu (l : List UInt8) : Nat := l.foldl (fun n c => n * 10 + (c.toNat - 48)) 0
/-- Each is a digit. -/
def Dig (l : List UInt8) : Prop := ∀ c ∈ l, 48 ≤ c.toNat ∧ c.toNat ≤ 57
theorem nu_nil : nu [] = 0 := rfl
theorem nu_snoc (l : List UInt8) (c : UInt8) : nu (l ++ [c]) = nu l * 10 + (c.toNat - 48) := by unfold nu; rw [List.foldl_append]; rfl
theorem Dig.nil : Dig [] := fun _ h => by cases h
theorem Dig.app {l m : List UInt8} (hl : Dig l) (hm : Dig m) : Dig (l ++ m) := fun c h => by
  rcases List.mem_append.1 h with h | h
  · exact hl c h
  · exact hm c h
theorem Dig.left {l m : List UInt8} (h : Dig (l ++ m)) : Dig l := fun c hc => h c (List.mem_append.2 (.inl hc))
theorem Dig.right {l m : List UInt8} (h : Dig (l ++ m)) : Dig m := fun c hc => h c (List.mem_append.2 (.inr hc))
theorem Dig.one {c : UInt8} (h0 : 48 ≤ c.toNat) (h1 : c.toNat ≤ 57) : Dig [c] := fun d hd => by
  rw [List.mem_singleton] at hd; subst hd; exact ⟨h0, h1⟩
theorem Dig.head {c : UInt8} {l : List UInt8} (h : Dig (c :: l)) : 48 ≤ c.toNat ∧ c.toNat ≤ 57 := h c (List.mem_cons_self ..)
theorem Dig.tail {c : UInt8} {l : List UInt8} (h : Dig (c :: l)) : Dig l := fun d hd => h d (List.mem_cons_of_mem _ hd)
theorem Dig.take {l : List UInt8} (h : Dig l) (k : Nat) : Dig (l.take k) := fun c hc => h c (List.mem_of_mem_take hc)
theorem Dig.drop {l : List UInt8} (h : Dig l) (k : Nat) : Dig (l.drop k) := fun c hc => h c (List.mem_of_mem_drop hc)
theorem snocInd {P : List UInt8 → Prop} (h0 : P []) (h1 : ∀ l c, P l → P (l ++ [c])) : ∀ l, P l := by
  intro l
  have : ∀ n (l : List UInt8), l.length = n → P l := by
    intro n
    induction n with
    | zero => intro l hl; rw [List.length_eq_zero_iff.1 hl]; exact h0
    | succ n ih =>
      intro l hl
      have hne : l ≠ [] := by intro e; subst e; simp at hl
      rw [← List.dropLast_concat_getLast hne]
      exact h1 _ _ (ih _ (by simp [hl]))
  exact this _ l rfl
theorem nu_append (l m : List UInt8) : nu (l ++ m) = nu l * 10 ^ m.length + nu m := by
  induction m using snocInd with
  | h0 => simp [nu_nil]
  | h1 m c ih =>
    rw [← List.append_assoc, nu_snoc, ih, nu_snoc, List.length_append, List.length_singleton, Nat.pow_succ, ← Nat.mul_assoc, Nat.add_mul]
    omega
theorem nu_lt {l : List UInt8} (h : Dig l) : nu l < 10 ^ l.length := by
  induction l using snocInd with
  | h0 => simp [nu_nil]
  | h1 l c ih =>
    have h1 := ih h.left
    have h2 := h.right.head
    rw [nu_snoc, List.length_append, List.length_singleton, Nat.pow_succ]
    omega
theorem u8_toNat {k : Nat} (h : k < 10) : (UInt8.ofNat (48 + k)).toNat = 48 + k := by
  rw [UInt8.toNat_ofNat']; omega
theorem dec_small {n : Nat} (h : n < 10) : Lib.decDigits n = [UInt8.ofNat (48 + n)] := Lib.decDigits_one h
theorem dec_big {n : Nat} (h : ¬ n < 10) : Lib.decDigits n = Lib.decDigits (n / 10) ++ [UInt8.ofNat (48 + n % 10)] := by
  rw [Lib.decDigits, dif_neg h]
theorem nu_one {k : Nat} (h : k < 10) : nu [UInt8.ofNat (48 + k)] = k := by
  have := nu_snoc [] (UInt8.ofNat (48 + k))
  rw [List.nil_append, u8_toNat h, nu_nil] at this
  omega
theorem nu_dec : ∀ n : Nat, nu (Lib.decDigits n) = n := by
  intro n
  induction n using Nat.strongRecOn with
  | _ n ih =>
    by_cases h : n < 10
    · rw [dec_small h, nu_one h]
    · rw [dec_big h, nu_snoc, ih _ (by omega), u8_toNat (by omega)]; omega
theorem Dig_dec : ∀ n : Nat, Dig (Lib.decDigits n) := by
  intro n
  induction n using Nat.strongRecOn with
  | _ n ih =>
    have h1 : ∀ k, k < 10 → Dig [UInt8.ofNat (48 + k)] := fun k hk => Dig.one (by rw [u8_toNat hk]; omega) (by rw [u8_toNat hk]; omega)
    by_cases h : n < 10
    · rw [dec_small h]; exact h1 _ h
    · rw [dec_big h]; exact (ih _ (by omega)).app (h1 _ (by omega))
theorem dec_len_pos (n : Nat) : 0 < (Lib.decDigits n).length := by rw [Lib.decDigits_length]; exact Lib.nDigits_pos n
theorem dec_len_le {n k : Nat} (hk : 0 < k) (h : n < 10 ^ k) : (Lib.decDigits n).length ≤ k := by
  induction k generalizing n with
  | zero => omega
  | succ k ih =>
    by_cases hn : n < 10
    · rw [dec_small hn]; simp
    · rw [dec_big hn, List.length_append, List.length_singleton]
      have hk0 : 0 < k := by
        rcases Nat.eq_zero_or_pos k with rfl | h0
        · simp at h; omega
        · exact h0
      have := ih (n := n / 10) hk0 (by rw [Nat.pow_succ] at h; omega)
      omega
/-- Digits without a nought ahead are the digits of what they are worth. -/
theorem dec_nu {l : List UInt8} (h : Dig l) (h0 : l ≠ []) (h1 : l.length = 1 ∨ ∀ c, l.head? = some c → c.toNat ≠ 48) : Lib.decDigits (nu l) = l := by
  induction l using snocInd with
  | h0 => exact absurd rfl h0
  | h1 l c ih =>
    have hc := h.right.head
    have ec : c = UInt8.ofNat (48 + (c.toNat - 48)) := by
      apply UInt8.toNat_inj.1
      rw [u8_toNat (by omega)]; omega
    rw [nu_snoc]
    cases l with
    | nil =>
      rw [nu_nil, Nat.zero_mul, Nat.zero_add, dec_small (by omega), ← ec]; rfl
    | cons d l =>
      have hd : d.toNat ≠ 48 := by
        rcases h1 with h1 | h1
        · simp at h1
        · exact h1 d rfl
      have hpos : 0 < nu (d :: l) := by
        have := nu_append [d] l
        have e : nu [d] = d.toNat - 48 := by have := nu_snoc [] d; rw [List.nil_append, nu_nil] at this; omega
        have hdd := h.left.head
        rw [e] at this
        have h3 : 0 < 10 ^ l.length := Nat.pos_of_ne_zero (by simp)
        have h4 : 1 * 10 ^ l.length ≤ (d.toNat - 48) * 10 ^ l.length := Nat.mul_le_mul_right _ (by omega)
        rw [show d :: l = [d] ++ l from rfl, this]; omega
      have ih2 := ih h.left (by simp) (.inr fun e he => by simp at he; subst he; exact hd)
      rw [dec_big (by omega), show (nu (d :: l) * 10 + (c.toNat - 48)) / 10 = nu (d :: l) by omega, ih2, show (nu (d :: l) * 10 + (c.toNat - 48)) % 10 = c.toNat - 48 by omega, ← ec]
theorem dec_head {n : Nat} (hn : n ≠ 0) : ∀ c, (Lib.decDigits n).head? = some c → c.toNat ≠ 48 := by
  induction n using Nat.strongRecOn with
  | _ n ih =>
    by_cases h : n < 10
    · rw [dec_small h]; intro c hc; injection hc with hc; subst hc; rw [u8_toNat h]; omega
    · rw [dec_big h]
      intro c hc
      have hp := dec_len_pos (n / 10)
      obtain ⟨d, t, e⟩ : ∃ d t, Lib.decDigits (n / 10) = d :: t := List.exists_cons_of_ne_nil (by intro e; rw [e] at hp; simp at hp)
      rw [e] at hc
      exact ih (n / 10) (by omega) (by omega) c (by rw [e]; exact hc)
/-- So many digits of a number, with noughts ahead. -/
def pad : Nat → Nat → List UInt8
  | 0, _ => []
  | k + 1, n => pad k (n / 10) ++ [UInt8.ofNat (48 + n % 10)]
theorem pad_len (k n : Nat) : (pad k n).length = k := by
  induction k generalizing n with
  | zero => rfl
  | succ k ih => simp [pad, ih]
theorem Dig_pad (k n : Nat) : Dig (pad k n) := by
  induction k generalizing n with
  | zero => exact Dig.nil
  | succ k ih => exact (ih _).app (Dig.one (by rw [u8_toNat (by omega)]; omega) (by rw [u8_toNat (by omega)]; omega))
theorem nu_pad (k n : Nat) : nu (pad k n) = n % 10 ^ k := by
  induction k generalizing n with
  | zero => simp [pad, nu_nil, Nat.mod_one]
  | succ k ih =>
    rw [pad, nu_snoc, ih, u8_toNat (by omega), Nat.pow_succ, Nat.mul_comm (10 ^ k) 10, Nat.mod_mul]
    omega
theorem dec_pad (k : Nat) {q : Nat} (hq : q ≠ 0) (r : Nat) (hr : r < 10 ^ k) : Lib.decDigits (q * 10 ^ k + r) = Lib.decDigits q ++ pad k r := by
  induction k generalizing r with
  | zero => simp at hr; subst hr; simp [pad]
  | succ k ih =>
    have hp : 0 < 10 ^ k := Nat.pos_of_ne_zero (by simp)
    rw [Nat.pow_succ] at hr ⊢
    have h1 : 1 * 10 ^ k ≤ q * 10 ^ k := Nat.mul_le_mul_right _ (by omega)
    rw [← Nat.mul_assoc]
    rw [dec_big (by omega), show (q * 10 ^ k * 10 + r) / 10 = q * 10 ^ k + r / 10 by omega, ih _ (by omega), show (q * 10 ^ k * 10 + r) % 10 = r % 10 by omega, pad, List.append_assoc]
theorem pad_dec (k n : Nat) (h : n < 10 ^ k) (hk : 0 < k) : pad k n = List.replicate (k - (Lib.decDigits n).length) 48 ++ Lib.decDigits n := by
  induction k generalizing n with
  | zero => omega
  | succ k ih =>
    rw [pad]
    by_cases hn : n < 10
    · rw [dec_small hn, show n / 10 = 0 by omega, show n % 10 = n by omega]
      congr 1
      have : ∀ k, pad k 0 = List.replicate k 48 := by
        intro k
        induction k with
        | zero => rfl
        | succ k ih => rw [pad, Nat.zero_div, ih, List.replicate_succ']; rfl
      rw [this]; simp
    · rw [dec_big hn]
      have hk0 : 0 < k := by
        rcases Nat.eq_zero_or_pos k with rfl | h0
        · simp at h; omega
        · exact h0
      rw [ih (n / 10) (by rw [Nat.pow_succ] at h; omega) hk0, List.length_append, List.length_singleton, List.append_assoc, Nat.add_sub_add_right]
theorem index_one_cases (c : UInt8) : ∀ m : List UInt8, (c ∉ m ∧ Lib.index m [c] = -1) ∨ (∃ a b, m = a ++ c :: b ∧ c ∉ a ∧ Lib.index m [c] = (a.length : Int)) := by
  intro m
  induction m with
  | nil => left; exact ⟨by simp, rfl⟩
  | cons d m ih =>
    by_cases h : c = d
    · subst h
      right
      refine ⟨[], m, rfl, by simp, ?_⟩
      unfold Lib.index
      rw [if_pos (by simp [List.isPrefixOf])]; rfl
    · have hp : [c].isPrefixOf (d :: m) = false := by simp [List.isPrefixOf, h]
      rcases ih with ⟨h1, h2⟩ | ⟨a, b, h1, h2, h3⟩
      · left
        refine ⟨by simp [h, h1], ?_⟩
        unfold Lib.index
        rw [hp, h2]; rfl
      · right
        refine ⟨d :: a, b, by rw [h1]; rfl, by simp [h, h2], ?_⟩
        unfold Lib.index
        rw [hp, h3]
        have hne : ((a.length : Int) == -1) = false := by rw [beq_eq_false_iff_ne]; omega
        simp [hne]
theorem cut_one (c : UInt8) (m : List UInt8) : (c ∉ m ∧ Lib.cut m [c] = (m, [], false)) ∨ (∃ a b, m = a ++ c :: b ∧ c ∉ a ∧ Lib.cut m [c] = (a, b, true)) := by
  unfold Lib.cut
  rcases index_one_cases c m with ⟨h1, h2⟩ | ⟨a, b, h1, h2, h3⟩
  · left; exact ⟨h1, by rw [h2, if_neg (by omega)]⟩
  · right
    refine ⟨a, b, h1, h2, ?_⟩
    rw [h3, if_pos (by omega)]
    have e : ((a.length : Int)).toNat = a.length := rfl
    rw [e, h1]
    have e2 : a ++ c :: b = (a ++ [c]) ++ b := by simp
    rw [List.take_left, e2, show a.length + [c].length = (a ++ [c]).length by simp, List.drop_left]
/-- So many units in digits, with a point. -/
def fx (n k : Nat) : List UInt8 := if k = 0 then Lib.decDigits n else Lib.decDigits (n / 10 ^ k) ++ 46 :: pad k (n % 10 ^ k)
theorem ten_pos (k : Nat) : 0 < 10 ^ k := Nat.pos_of_ne_zero (by simp)
/-- The digits with noughts ahead: at least one ahead of the point. -/
theorem padded (n k : Nat) : List.replicate (k + 1 - (Lib.decDigits n).length) 48 ++ Lib.decDigits n = Lib.decDigits (n / 10 ^ k) ++ pad k (n % 10 ^ k) := by
  by_cases h : n < 10 ^ k
  · rw [Nat.div_eq_of_lt h, Nat.mod_eq_of_lt h]
    rcases Nat.eq_zero_or_pos k with rfl | hk
    · simp at h; subst h
      have : (Lib.decDigits 0).length = 1 := by rw [dec_small (by omega)]; rfl
      rw [this]; simp [pad]
    · have hl := dec_len_le hk h
      rw [pad_dec k n h hk, dec_small (n := 0) (by omega), show k + 1 - (Lib.decDigits n).length = (k - (Lib.decDigits n).length) + 1 by omega, List.replicate_succ]
      rfl
  · have hq : n / 10 ^ k ≠ 0 := by
      have := Nat.div_pos (Nat.le_of_not_lt h) (ten_pos k); omega
    have e := dec_pad k hq (n % 10 ^ k) (Nat.mod_lt _ (ten_pos k))
    have e2 : n / 10 ^ k * 10 ^ k + n % 10 ^ k = n := by rw [Nat.mul_comm]; exact Nat.div_add_mod n _
    rw [e2] at e
    rw [e]
    have : k + 1 - (Lib.decDigits (n / 10 ^ k) ++ pad k (n % 10 ^ k)).length = 0 := by
      rw [List.length_append, pad_len]; have := dec_len_pos (n / 10 ^ k); omega
    rw [this]; rfl
/-- The cut digits, a point between. -/
theorem fx_cut {n k : Nat} (hk : k ≠ 0) (d : List UInt8) (hd : d = List.replicate (k + 1 - (Lib.decDigits n).length) 48 ++ Lib.decDigits n) :
    k < d.length ∧ d.take (d.length - k) ++ 46 :: d.drop (d.length - k) = fx n k := by
  rw [padded] at hd
  have hl : d.length - k = (Lib.decDigits (n / 10 ^ k)).length := by rw [hd, List.length_append, pad_len]; omega
  have hp := dec_len_pos (n / 10 ^ k)
  refine ⟨by omega, ?_⟩
  rw [hl, hd, List.take_left, List.drop_left]
  unfold fx; rw [if_neg hk]
/-- What the digits with a point are worth. -/
theorem fx_nu {n k : Nat} : nu (Lib.decDigits (n / 10 ^ k) ++ pad k (n % 10 ^ k)) = n := by
  rw [nu_append, nu_dec, nu_pad, pad_len, Nat.mod_eq_of_lt (Nat.mod_lt _ (ten_pos k)), Nat.mul_comm]
  exact Nat.div_add_mod n _
theorem fx_len {n k j : Nat} (hj : 0 < j) (h : n < 10 ^ j) : (fx n k).length ≤ j + k + 1 := by
  unfold fx
  split
  · have := dec_len_le hj h; omega
  · have := dec_len_le hj (Nat.lt_of_le_of_lt (Nat.div_le_self n (10 ^ k)) h)
    simp only [List.length_append, List.length_cons, pad_len]
    omega
theorem trimR_snoc (l : List UInt8) (j : Nat) (c : UInt8) (hc : c ≠ 48) : Lib.trimRightB (l ++ [c] ++ List.replicate j 48) 48 = l ++ [c] := by
  have : ∀ j, Lib.trimRightB (l ++ [c] ++ List.replicate j 48) 48 = l ++ [c] := by
    intro j
    unfold Lib.trimRightB
    rw [List.reverse_append, List.reverse_replicate, List.reverse_append]
    have : ∀ j, (List.replicate j (48 : UInt8) ++ ([c].reverse ++ l.reverse)).dropWhile (· == 48) = [c].reverse ++ l.reverse := by
      intro j
      induction j with
      | zero => simp [hc]
      | succ j ih => rw [List.replicate_succ, List.cons_append, List.dropWhile_cons, if_pos (by simp)]; exact ih
    rw [this]; simp
  exact this j
theorem pad_more (k j n : Nat) : pad (k + j) (n * 10 ^ j) = pad k n ++ List.replicate j 48 := by
  induction j with
  | zero => simp
  | succ j ih =>
    rw [← Nat.add_assoc, pad, Nat.pow_succ, ← Nat.mul_assoc, Nat.mul_div_cancel _ (by omega), ih, Nat.mul_mod_left, List.replicate_succ', List.append_assoc]
    rfl
/-- The least number of digits that tell x by y. -/
structure ExAt (x y K : Nat) : Prop where
  tells : y ∣ x * 10 ^ K
  least : ∀ j, j < K → ¬ y ∣ x * 10 ^ j
theorem ex_of {x y m : Nat} (h : y ∣ x * 10 ^ m) : ∃ K, K ≤ m ∧ ExAt x y K := by
  induction m with
  | zero => exact ⟨0, Nat.le_refl _, h, fun j hj => absurd hj (by omega)⟩
  | succ m ih =>
    by_cases h1 : ∃ j, j < m + 1 ∧ y ∣ x * 10 ^ j
    · obtain ⟨j, hj, hd⟩ := h1
      have : y ∣ x * 10 ^ m := by
        obtain ⟨i, rfl⟩ : ∃ i, m = j + i := ⟨m - j, by omega⟩
        rw [Nat.pow_add, ← Nat.mul_assoc]; exact Nat.dvd_trans hd (Nat.dvd_mul_right _ _)
      obtain ⟨K, hK, he⟩ := ih this
      exact ⟨K, by omega, he⟩
    · exact ⟨m + 1, Nat.le_refl _, h, fun j hj hd => h1 ⟨j, hj, hd⟩⟩
theorem ex_more {x y K m : Nat} (hK : K ≤ m) (h : y ∣ x * 10 ^ K) : y ∣ x * 10 ^ m := by
  obtain ⟨i, rfl⟩ : ∃ i, m = K + i := ⟨m - K, by omega⟩
  rw [Nat.pow_add, ← Nat.mul_assoc]; exact Nat.dvd_trans h (Nat.dvd_mul_right _ _)
/-- With noughts cut off, and the point if it is last, the digits are the fewest. -/
theorem fx_trim {x y K m : Nat} (hy : y ≠ 0) (hm : m ≠ 0) (hK : K ≤ m) (h : ExAt x y K) :
    Lib.trimSuffix (Lib.trimRightB (fx (x * 10 ^ m / y) m) 48) [46] = fx (x * 10 ^ K / y) K := by
  obtain ⟨q, hq⟩ := h.tells
  have eq : x * 10 ^ K / y = q := by rw [hq, Nat.mul_div_cancel_left _ (Nat.pos_of_ne_zero hy)]
  have em : x * 10 ^ m / y = q * 10 ^ (m - K) := by
    have : 10 ^ m = 10 ^ K * 10 ^ (m - K) := by rw [← Nat.pow_add]; congr 1; omega
    rw [this, ← Nat.mul_assoc, hq, Nat.mul_assoc, Nat.mul_div_cancel_left _ (Nat.pos_of_ne_zero hy)]
  rw [eq, em]
  have hdiv : q * 10 ^ (m - K) / 10 ^ m = q / 10 ^ K := by
    have : 10 ^ m = 10 ^ K * 10 ^ (m - K) := by rw [← Nat.pow_add]; congr 1; omega
    rw [this]; exact Nat.mul_div_mul_right _ _ (ten_pos _)
  have hmod : q * 10 ^ (m - K) % 10 ^ m = (q % 10 ^ K) * 10 ^ (m - K) := by
    have : 10 ^ m = 10 ^ K * 10 ^ (m - K) := by rw [← Nat.pow_add]; congr 1; omega
    rw [this]; exact Nat.mul_mod_mul_right _ _ _
  have hfm : fx (q * 10 ^ (m - K)) m = Lib.decDigits (q / 10 ^ K) ++ 46 :: (pad K (q % 10 ^ K) ++ List.replicate (m - K) 48) := by
    unfold fx
    rw [if_neg hm, hdiv, hmod]
    have : pad m (q % 10 ^ K * 10 ^ (m - K)) = pad (K + (m - K)) (q % 10 ^ K * 10 ^ (m - K)) := by congr 1; omega
    rw [this, pad_more]
  rw [hfm]
  rcases Nat.eq_zero_or_pos K with rfl | hK0
  · have e1 : Lib.decDigits (q / 10 ^ 0) ++ 46 :: (pad 0 (q % 10 ^ 0) ++ List.replicate (m - 0) 48) = Lib.decDigits q ++ [46] ++ List.replicate m 48 := by simp [pad]
    rw [e1, trimR_snoc _ _ _ (by decide)]
    have e2 : fx q 0 = Lib.decDigits q := by unfold fx; simp
    rw [e2]
    unfold Lib.trimSuffix
    have : Lib.hasSuffix (Lib.decDigits q ++ [46]) [46] = true := by unfold Lib.hasSuffix; rw [List.isSuffixOf_iff_suffix]; exact List.suffix_append _ _
    rw [if_pos this]; simp
  · obtain ⟨k, rfl⟩ : ∃ k, K = k + 1 := ⟨K - 1, by omega⟩
    have hlast : q % 10 ≠ 0 := by
      intro h0
      refine h.least k (by omega) ?_
      obtain ⟨p, hp⟩ : 10 ∣ q := Nat.dvd_of_mod_eq_zero h0
      refine ⟨p, ?_⟩
      have : x * 10 ^ k * 10 = y * p * 10 := by rw [Nat.mul_assoc, ← Nat.pow_succ, hq, hp, Nat.mul_comm 10 p, Nat.mul_assoc]
      omega
    have hm10 : q % 10 ^ (k + 1) % 10 = q % 10 := by rw [Nat.pow_succ, Nat.mul_comm, Nat.mod_mul_right_mod]
    have hne : UInt8.ofNat (48 + q % 10 ^ (k + 1) % 10) ≠ 48 := by
      intro e
      have := congrArg UInt8.toNat e
      rw [hm10, u8_toNat (by omega)] at this
      have : 48 + q % 10 = 48 := this
      omega
    have e1 : Lib.decDigits (q / 10 ^ (k + 1)) ++ 46 :: (pad (k + 1) (q % 10 ^ (k + 1)) ++ List.replicate (m - (k + 1)) 48)
        = (Lib.decDigits (q / 10 ^ (k + 1)) ++ 46 :: pad k (q % 10 ^ (k + 1) / 10)) ++ [UInt8.ofNat (48 + q % 10 ^ (k + 1) % 10)] ++ List.replicate (m - (k + 1)) 48 := by simp [pad]
    rw [e1, trimR_snoc _ _ _ hne]
    have e3 : (Lib.decDigits (q / 10 ^ (k + 1)) ++ 46 :: pad k (q % 10 ^ (k + 1) / 10)) ++ [UInt8.ofNat (48 + q % 10 ^ (k + 1) % 10)] = fx q (k + 1) := by
      unfold fx; rw [if_neg (by omega)]; simp [pad]
    rw [e3]
    unfold Lib.trimSuffix
    rw [if_neg]
    rw [← e3]
    unfold Lib.hasSuffix
    intro hs
    rw [List.isSuffixOf_iff_suffix] at hs
    obtain ⟨t, ht⟩ := hs
    have h2 := congrArg List.getLast? ht
    rw [List.getLast?_append, List.getLast?_append] at h2
    have h4 : (46 : UInt8) = UInt8.ofNat (48 + q % 10 ^ (k + 1) % 10) := Option.some.inj h2
    have h2 := congrArg UInt8.toNat h4
    rw [u8_toNat (by omega)] at h2
    have : (46 : Nat) = 48 + q % 10 ^ (k + 1) % 10 := h2
    omega
end Go.Proofs.YtcmomoalohibiaaGreatDoor
