/-
  Plain digits: what a text of digits is worth, the digits of a number, with noughts ahead, with a point; a text cut at a byte. No program.
  nat's Parse: whether a text is digits; a digit put behind those of a row; digits as a row of limbs.
  The document's Parse and Print of naturals.
  Print of naturals, the document's way.
  Print of naturals, the program's way: groups of nine digits; a group's digits put behind a text of bytes.
  Print of naturals, the program's way: a number's groups; the text.
  Print of naturals, the program's way: the text, out of its groups; the library's table at hand.
-/
import Derived.Lib.ItoaNum
import Derived.Lib.TrimByte
import Derived.Lib.IndexMore
import Derived.Test.YtdpbceipiappjaaGreatDoorMNb
import Derived.Test.YtdpbceipiappjaaGreatDoorMNc
import Derived.Sort.AtCall
import Derived.Deep.RegionHeld3
import Derived.Lib.ConvBytes
import Derived.Test.YtdpbceipiappjaaGreatDoorMRq
import Derived.Laws.IdiomStrings
import Derived.Outline
import Derived.Test.YtdpbceipiappjaaGreatDoorMNd
import Derived.Test.YtdpbceipiappjaaGreatDoorShelf
import Derived.Lib.AppendIntMem
namespace Go.Proofs.YtdpbceipiappjaaGreatDoor
set_option maxRecDepth 20000
/-- What a text's digits are worth. -/
def nu (l : List UInt8) : Nat := l.foldl (fun n c => n * 10 + (c.toNat - 48)) 0
/-- Each is a digit. -/
def Dig (l : List UInt8) : Prop := ∀ c ∈ l, 48 ≤ c.toNat ∧ c.toNat ≤ 57
theorem nu_nil : nu [] = 0 := rfl
theorem nu_snoc (l : List UInt8) (c : UInt8) : nu (l ++ [c]) = nu l * 10 + (c.toNat - 48) := by unfold nu; rw [List.foldl_append]; rfl
theorem Dig.nil : Dig [] := fun _ h => by cases h
theorem Dig.app {l m : List UInt8} (hl : Dig l) (hm : Dig m) : Dig (l ++ m) := fun c h => by
  rcases List.mem_append.1 h with h | h
  · exact hl c h
  · exact hm c h
theorem Dig.left {l m : List UInt8} (h : Dig (l ++ m)) : Dig l := fun c hc => h c (List.mem_append.2 (.inl hc))
theorem Dig.right {l m : List UInt8} (h : Dig (l ++ m)) : Dig m := fun c hc => h c (List.mem_append.2 (.inr hc))
theorem Dig.one {c : UInt8} (h0 : 48 ≤ c.toNat) (h1 : c.toNat ≤ 57) : Dig [c] := fun d hd => by
  rw [List.mem_singleton] at hd; subst hd; exact ⟨h0, h1⟩
theorem Dig.head {c : UInt8} {l : List UInt8} (h : Dig (c :: l)) : 48 ≤ c.toNat ∧ c.toNat ≤ 57 := h c (List.mem_cons_self ..)
theorem Dig.tail {c : UInt8} {l : List UInt8} (h : Dig (c :: l)) : Dig l := fun d hd => h d (List.mem_cons_of_mem _ hd)
theorem Dig.take {l : List UInt8} (h : Dig l) (k : Nat) : Dig (l.take k) := fun c hc => h c (List.mem_of_mem_take hc)
theorem Dig.drop {l : List UInt8} (h : Dig l) (k : Nat) : Dig (l.drop k) := fun c hc => h c (List.mem_of_mem_drop hc)
theorem snocInd {P : List UInt8 → Prop} (h0 : P []) (h1 : ∀ l c, P l → P (l ++ [c])) : ∀ l, P l := by
  intro l
  have : ∀ n (l : List UInt8), l.length = n → P l := by
    intro n
    induction n with
    | zero => intro l hl; rw [List.length_eq_zero_iff.1 hl]; exact h0
    | succ n ih =>
      intro l hl
      have hne : l ≠ [] := by intro e; subst e; simp at hl
      rw [← List.dropLast_concat_getLast hne]
      exact h1 _ _ (ih _ (by simp [hl]))
  exact this _ l rfl
theorem nu_append (l m : List UInt8) : nu (l ++ m) = nu l * 10 ^ m.length + nu m := by
  induction m using snocInd with
  | h0 => simp [nu_nil]
  | h1 m c ih =>
    rw [← List.append_assoc, nu_snoc, ih, nu_snoc, List.length_append, List.length_singleton, Nat.pow_succ, ← Nat.mul_assoc, Nat.add_mul]
    omega
theorem nu_lt {l : List UInt8} (h : Dig l) : nu l < 10 ^ l.length := by
  induction l using snocInd with
  | h0 => simp [nu_nil]
  | h1 l c ih =>
    have h1 := ih h.left
    have h2 := h.right.head
    rw [nu_snoc, List.length_append, List.length_singleton, Nat.pow_succ]
    omega
theorem u8_toNat {k : Nat} (h : k < 10) : (UInt8.ofNat (48 + k)).toNat = 48 + k := by
  rw [UInt8.toNat_ofNat']; omega
theorem dec_small {n : Nat} (h : n < 10) : Lib.decDigits n = [UInt8.ofNat (48 + n)] := Lib.decDigits_one h
theorem dec_big {n : Nat} (h : ¬ n < 10) : Lib.decDigits n = Lib.decDigits (n / 10) ++ [UInt8.ofNat (48 + n % 10)] := by
  rw [Lib.decDigits, dif_neg h]
theorem nu_one {k : Nat} (h : k < 10) : nu [UInt8.ofNat (48 + k)] = k := by
  have := nu_snoc [] (UInt8.ofNat (48 + k))
  rw [List.nil_append, u8_toNat h, nu_nil] at this
  omega
theorem nu_dec : ∀ n : Nat, nu (Lib.decDigits n) = n := by
  intro n
  induction n using Nat.strongRecOn with
  | _ n ih =>
    by_cases h : n < 10
    · rw [dec_small h, nu_one h]
    · rw [dec_big h, nu_snoc, ih _ (by omega), u8_toNat (by omega)]; omega
theorem Dig_dec : ∀ n : Nat, Dig (Lib.decDigits n) := by
  intro n
  induction n using Nat.strongRecOn with
  | _ n ih =>
    have h1 : ∀ k, k < 10 → Dig [UInt8.ofNat (48 + k)] := fun k hk => Dig.one (by rw [u8_toNat hk]; omega) (by rw [u8_toNat hk]; omega)
    by_cases h : n < 10
    · rw [dec_small h]; exact h1 _ h
    · rw [dec_big h]; exact (ih _ (by omega)).app (h1 _ (by omega))
theorem dec_len_pos (n : Nat) : 0 < (Lib.decDigits n).length := by rw [Lib.decDigits_length]; exact Lib.nDigits_pos n
theorem dec_len_le {n k : Nat} (hk : 0 < k) (h : n < 10 ^ k) : (Lib.decDigits n).length ≤ k := by
  induction k generalizing n with
  | zero => omega
  | succ k ih =>
    by_cases hn : n < 10
    · rw [dec_small hn]; simp
    · rw [dec_big hn, List.length_append, List.length_singleton]
      have hk0 : 0 < k := by
        rcases Nat.eq_zero_or_pos k with rfl | h0
        · simp at h; omega
        · exact h0
      have := ih (n := n / 10) hk0 (by rw [Nat.pow_succ] at h; omega)
      omega
/-- Digits without a nought ahead are the digits of what they are worth. -/
theorem dec_nu {l : List UInt8} (h : Dig l) (h0 : l ≠ []) (h1 : l.length = 1 ∨ ∀ c, l.head? = some c → c.toNat ≠ 48) : Lib.decDigits (nu l) = l := by
  induction l using snocInd with
  | h0 => exact absurd rfl h0
  | h1 l c ih =>
    have hc := h.right.head
    have ec : c = UInt8.ofNat (48 + (c.toNat - 48)) := by
      apply UInt8.toNat_inj.1
      rw [u8_toNat (by omega)]; omega
    rw [nu_snoc]
    cases l with
    | nil =>
      rw [nu_nil, Nat.zero_mul, Nat.zero_add, dec_small (by omega), ← ec]; rfl
    | cons d l =>
      have hd : d.toNat ≠ 48 := by
        rcases h1 with h1 | h1
        · simp at h1
        · exact h1 d rfl
      have hpos : 0 < nu (d :: l) := by
        have := nu_append [d] l
        have e : nu [d] = d.toNat - 48 := by have := nu_snoc [] d; rw [List.nil_append, nu_nil] at this; omega
        have hdd := h.left.head
        rw [e] at this
        have h3 : 0 < 10 ^ l.length := Nat.pos_of_ne_zero (by simp)
        have h4 : 1 * 10 ^ l.length ≤ (d.toNat - 48) * 10 ^ l.length := Nat.mul_le_mul_right _ (by omega)
        rw [show d :: l = [d] ++ l from rfl, this]; omega
      have ih2 := ih h.left (by simp) (.inr fun e he => by simp at he; subst he; exact hd)
      rw [dec_big (by omega), show (nu (d :: l) * 10 + (c.toNat - 48)) / 10 = nu (d :: l) by omega, ih2, show (nu (d :: l) * 10 + (c.toNat - 48)) % 10 = c.toNat - 48 by omega, ← ec]
theorem dec_head {n : Nat} (hn : n ≠ 0) : ∀ c, (Lib.decDigits n).head? = some c → c.toNat ≠ 48 := by
  induction n using Nat.strongRecOn with
  | _ n ih =>
    by_cases h : n < 10
    · rw [dec_small h]; intro c hc; injection hc with hc; subst hc; rw [u8_toNat h]; omega
    · rw [dec_big h]
      intro c hc
      have hp := dec_len_pos (n / 10)
      obtain ⟨d, t, e⟩ : ∃ d t, Lib.decDigits (n / 10) = d :: t := List.exists_cons_of_ne_nil (by intro e; rw [e] at hp; simp at hp)
      rw [e] at hc
      exact ih (n / 10) (by omega) (by omega) c (by rw [e]; exact hc)
/-- So many digits of a number, with noughts ahead. -/
def pad : Nat → Nat → List UInt8
  | 0, _ => []
  | k + 1, n => pad k (n / 10) ++ [UInt8.ofNat (48 + n % 10)]
theorem pad_len (k n : Nat) : (pad k n).length = k := by
  induction k generalizing n with
  | zero => rfl
  | succ k ih => simp [pad, ih]
theorem Dig_pad (k n : Nat) : Dig (pad k n) := by
  induction k generalizing n with
  | zero => exact Dig.nil
  | succ k ih => exact (ih _).app (Dig.one (by rw [u8_toNat (by omega)]; omega) (by rw [u8_toNat (by omega)]; omega))
theorem nu_pad (k n : Nat) : nu (pad k n) = n % 10 ^ k := by
  induction k generalizing n with
  | zero => simp [pad, nu_nil, Nat.mod_one]
  | succ k ih =>
    rw [pad, nu_snoc, ih, u8_toNat (by omega), Nat.pow_succ, Nat.mul_comm (10 ^ k) 10, Nat.mod_mul]
    omega
theorem dec_pad (k : Nat) {q : Nat} (hq : q ≠ 0) (r : Nat) (hr : r < 10 ^ k) : Lib.decDigits (q * 10 ^ k + r) = Lib.decDigits q ++ pad k r := by
  induction k generalizing r with
  | zero => simp at hr; subst hr; simp [pad]
  | succ k ih =>
    have hp : 0 < 10 ^ k := Nat.pos_of_ne_zero (by simp)
    rw [Nat.pow_succ] at hr ⊢
    have h1 : 1 * 10 ^ k ≤ q * 10 ^ k := Nat.mul_le_mul_right _ (by omega)
    rw [← Nat.mul_assoc]
    rw [dec_big (by omega), show (q * 10 ^ k * 10 + r) / 10 = q * 10 ^ k + r / 10 by omega, ih _ (by omega), show (q * 10 ^ k * 10 + r) % 10 = r % 10 by omega, pad, List.append_assoc]
theorem pad_dec (k n : Nat) (h : n < 10 ^ k) (hk : 0 < k) : pad k n = List.replicate (k - (Lib.decDigits n).length) 48 ++ Lib.decDigits n := by
  induction k generalizing n with
  | zero => omega
  | succ k ih =>
    rw [pad]
    by_cases hn : n < 10
    · rw [dec_small hn, show n / 10 = 0 by omega, show n % 10 = n by omega]
      congr 1
      have : ∀ k, pad k 0 = List.replicate k 48 := by
        intro k
        induction k with
        | zero => rfl
        | succ k ih => rw [pad, Nat.zero_div, ih, List.replicate_succ']; rfl
      rw [this]; simp
    · rw [dec_big hn]
      have hk0 : 0 < k := by
        rcases Nat.eq_zero_or_pos k with rfl | h0
        · simp at h; omega
        · exact h0
      rw [ih (n / 10) (by rw [Nat.pow_succ] at h; omega) hk0, List.length_append, List.length_singleton, List.append_assoc, Nat.add_sub_add_right]
theorem index_one_cases (c : UInt8) : ∀ m : List UInt8, (c ∉ m ∧ Lib.index m [c] = -1) ∨ (∃ a b, m = a ++ c :: b ∧ c ∉ a ∧ Lib.index m [c] = (a.length : Int)) := by
  intro m
  induction m with
  | nil => left; exact ⟨by simp, rfl⟩
  | cons d m ih =>
    by_cases h : c = d
    · subst h
      right
      refine ⟨[], m, rfl, by simp, ?_⟩
      unfold Lib.index
      rw [if_pos (by simp [List.isPrefixOf])]; rfl
    · have hp : [c].isPrefixOf (d :: m) = false := by simp [List.isPrefixOf, h]
      rcases ih with ⟨h1, h2⟩ | ⟨a, b, h1, h2, h3⟩
      · left
        refine ⟨by simp [h, h1], ?_⟩
        unfold Lib.index
        rw [hp, h2]; rfl
      · right
        refine ⟨d :: a, b, by rw [h1]; rfl, by simp [h, h2], ?_⟩
        unfold Lib.index
        rw [hp, h3]
        have hne : ((a.length : Int) == -1) = false := by rw [beq_eq_false_iff_ne]; omega
        simp [hne]
theorem cut_one (c : UInt8) (m : List UInt8) : (c ∉ m ∧ Lib.cut m [c] = (m, [], false)) ∨ (∃ a b, m = a ++ c :: b ∧ c ∉ a ∧ Lib.cut m [c] = (a, b, true)) := by
  unfold Lib.cut
  rcases index_one_cases c m with ⟨h1, h2⟩ | ⟨a, b, h1, h2, h3⟩
  · left; exact ⟨h1, by rw [h2, if_neg (by omega)]⟩
  · right
    refine ⟨a, b, h1, h2, ?_⟩
    rw [h3, if_pos (by omega)]
    have e : ((a.length : Int)).toNat = a.length := rfl
    rw [e, h1]
    have e2 : a ++ c :: b = (a ++ [c]) ++ b := by simp
    rw [List.take_left, e2, show a.length + [c].length = (a ++ [c]).length by simp, List.drop_left]
/-- So many units in digits, with a point. -/
def fx (n k : Nat) : List UInt8 := if k = 0 then Lib.decDigits n else Lib.decDigits (n / 10 ^ k) ++ 46 :: pad k (n % 10 ^ k)
theorem ten_pos (k : Nat) : 0 < 10 ^ k := Nat.pos_of_ne_zero (by simp)
/-- The digits with noughts ahead: at least one ahead of the point. -/
theorem padded (n k : Nat) : List.replicate (k + 1 - (Lib.decDigits n).length) 48 ++ Lib.decDigits n = Lib.decDigits (n / 10 ^ k) ++ pad k (n % 10 ^ k) := by
  by_cases h : n < 10 ^ k
  · rw [Nat.div_eq_of_lt h, Nat.mod_eq_of_lt h]
    rcases Nat.eq_zero_or_pos k with rfl | hk
    · simp at h; subst h
      have : (Lib.decDigits 0).length = 1 := by rw [dec_small (by omega)]; rfl
      rw [this]; simp [pad]
    · have hl := dec_len_le hk h
      rw [pad_dec k n h hk, dec_small (n := 0) (by omega), show k + 1 - (Lib.decDigits n).length = (k - (Lib.decDigits n).length) + 1 by omega, List.replicate_succ]
      rfl
  · have hq : n / 10 ^ k ≠ 0 := by
      have := Nat.div_pos (Nat.le_of_not_lt h) (ten_pos k); omega
    have e := dec_pad k hq (n % 10 ^ k) (Nat.mod_lt _ (ten_pos k))
    have e2 : n / 10 ^ k * 10 ^ k + n % 10 ^ k = n := by rw [Nat.mul_comm]; exact Nat.div_add_mod n _
    rw [e2] at e
    rw [e]
    have : k + 1 - (Lib.decDigits (n / 10 ^ k) ++ pad k (n % 10 ^ k)).length = 0 := by
      rw [List.length_append, pad_len]; have := dec_len_pos (n / 10 ^ k); omega
    rw [this]; rfl
/-- The cut digits, a point between. -/
theorem fx_cut {n k : Nat} (hk : k ≠ 0) (d : List UInt8) (hd : d = List.replicate (k + 1 - (Lib.decDigits n).length) 48 ++ Lib.decDigits n) :
    k < d.length ∧ d.take (d.length - k) ++ 46 :: d.drop (d.length - k) = fx n k := by
  rw [padded] at hd
  have hl : d.length - k = (Lib.decDigits (n / 10 ^ k)).length := by rw [hd, List.length_append, pad_len]; omega
  have hp := dec_len_pos (n / 10 ^ k)
  refine ⟨by omega, ?_⟩
  rw [hl, hd, List.take_left, List.drop_left]
  unfold fx; rw [if_neg hk]
/-- What the digits with a point are worth. -/
theorem fx_nu {n k : Nat} : nu (Lib.decDigits (n / 10 ^ k) ++ pad k (n % 10 ^ k)) = n := by
  rw [nu_append, nu_dec, nu_pad, pad_len, Nat.mod_eq_of_lt (Nat.mod_lt _ (ten_pos k)), Nat.mul_comm]
  exact Nat.div_add_mod n _
theorem fx_len {n k j : Nat} (hj : 0 < j) (h : n < 10 ^ j) : (fx n k).length ≤ j + k + 1 := by
  unfold fx
  split
  · have := dec_len_le hj h; omega
  · have := dec_len_le hj (Nat.lt_of_le_of_lt (Nat.div_le_self n (10 ^ k)) h)
    simp only [List.length_append, List.length_cons, pad_len]
    omega
theorem trimR_snoc (l : List UInt8) (j : Nat) (c : UInt8) (hc : c ≠ 48) : Lib.trimRightB (l ++ [c] ++ List.replicate j 48) 48 = l ++ [c] := by
  have : ∀ j, Lib.trimRightB (l ++ [c] ++ List.replicate j 48) 48 = l ++ [c] := by
    intro j
    unfold Lib.trimRightB
    rw [List.reverse_append, List.reverse_replicate, List.reverse_append]
    have : ∀ j, (List.replicate j (48 : UInt8) ++ ([c].reverse ++ l.reverse)).dropWhile (· == 48) = [c].reverse ++ l.reverse := by
      intro j
      induction j with
      | zero => simp [hc]
      | succ j ih => rw [List.replicate_succ, List.cons_append, List.dropWhile_cons, if_pos (by simp)]; exact ih
    rw [this]; simp
  exact this j
theorem pad_more (k j n : Nat) : pad (k + j) (n * 10 ^ j) = pad k n ++ List.replicate j 48 := by
  induction j with
  | zero => simp
  | succ j ih =>
    rw [← Nat.add_assoc, pad, Nat.pow_succ, ← Nat.mul_assoc, Nat.mul_div_cancel _ (by omega), ih, Nat.mul_mod_left, List.replicate_succ', List.append_assoc]
    rfl
/-- The least number of digits that tell x by y. -/
structure ExAt (x y K : Nat) : Prop where
  tells : y ∣ x * 10 ^ K
  least : ∀ j, j < K → ¬ y ∣ x * 10 ^ j
theorem ex_of {x y m : Nat} (h : y ∣ x * 10 ^ m) : ∃ K, K ≤ m ∧ ExAt x y K := by
  induction m with
  | zero => exact ⟨0, Nat.le_refl _, h, fun j hj => absurd hj (by omega)⟩
  | succ m ih =>
    by_cases h1 : ∃ j, j < m + 1 ∧ y ∣ x * 10 ^ j
    · obtain ⟨j, hj, hd⟩ := h1
      have : y ∣ x * 10 ^ m := by
        obtain ⟨i, rfl⟩ : ∃ i, m = j + i := ⟨m - j, by omega⟩
        rw [Nat.pow_add, ← Nat.mul_assoc]; exact Nat.dvd_trans hd (Nat.dvd_mul_right _ _)
      obtain ⟨K, hK, he⟩ := ih this
      exact ⟨K, by omega, he⟩
    · exact ⟨m + 1, Nat.le_refl _, h, fun j hj hd => h1 ⟨j, hj, hd⟩⟩
theorem ex_more {x y K m : Nat} (hK : K ≤ m) (h : y ∣ x * 10 ^ K) : y ∣ x * 10 ^ m := by
  obtain ⟨i, rfl⟩ : ∃ i, m = K + i := ⟨m - K, by omega⟩
  rw [Nat.pow_add, ← Nat.mul_assoc]; exact Nat.dvd_trans h (Nat.dvd_mul_right _ _)
/-- With noughts cut off, and the point if it is last, the digits are the fewest. -/
theorem fx_trim {x y K m : Nat} (hy : y ≠ 0) (hm : m ≠ 0) (hK : K ≤ m) (h : ExAt x y K) :
    Lib.trimSuffix (Lib.trimRightB (fx (x * 10 ^ m / y) m) 48) [46] = fx (x * 10 ^ K / y) K := by
  obtain ⟨q, hq⟩ := h.tells
  have eq : x * 10 ^ K / y = q := by rw [hq, Nat.mul_div_cancel_left _ (Nat.pos_of_ne_zero hy)]
  have em : x * 10 ^ m / y = q * 10 ^ (m - K) := by
    have : 10 ^ m = 10 ^ K * 10 ^ (m - K) := by rw [← Nat.pow_add]; congr 1; omega
    rw [this, ← Nat.mul_assoc, hq, Nat.mul_assoc, Nat.mul_div_cancel_left _ (Nat.pos_of_ne_zero hy)]
  rw [eq, em]
  have hdiv : q * 10 ^ (m - K) / 10 ^ m = q / 10 ^ K := by
    have : 10 ^ m = 10 ^ K * 10 ^ (m - K) := by rw [← Nat.pow_add]; congr 1; omega
    rw [this]; exact Nat.mul_div_mul_right _ _ (ten_pos _)
  have hmod : q * 10 ^ (m - K) % 10 ^ m = (q % 10 ^ K) * 10 ^ (m - K) := by
    have : 10 ^ m = 10 ^ K * 10 ^ (m - K) := by rw [← Nat.pow_add]; congr 1; omega
    rw [this]; exact Nat.mul_mod_mul_right _ _ _
  have hfm : fx (q * 10 ^ (m - K)) m = Lib.decDigits (q / 10 ^ K) ++ 46 :: (pad K (q % 10 ^ K) ++ List.replicate (m - K) 48) := by
    unfold fx
    rw [if_neg hm, hdiv, hmod]
    have : pad m (q % 10 ^ K * 10 ^ (m - K)) = pad (K + (m - K)) (q % 10 ^ K * 10 ^ (m - K)) := by congr 1; omega
    rw [this, pad_more]
  rw [hfm]
  rcases Nat.eq_zero_or_pos K with rfl | hK0
  · have e1 : Lib.decDigits (q / 10 ^ 0) ++ 46 :: (pad 0 (q % 10 ^ 0) ++ List.replicate (m - 0) 48) = Lib.decDigits q ++ [46] ++ List.replicate m 48 := by simp [pad]
    rw [e1, trimR_snoc _ _ _ (by decide)]
    have e2 : fx q 0 = Lib.decDigits q := by unfold fx; simp
    rw [e2]
    unfold Lib.trimSuffix
    have : Lib.hasSuffix (Lib.decDigits q ++ [46]) [46] = true := by unfold Lib.hasSuffix; rw [List.isSuffixOf_iff_suffix]; exact List.suffix_append _ _
    rw [if_pos this]; simp
  · obtain ⟨k, rfl⟩ : ∃ k, K = k + 1 := ⟨K - 1, by omega⟩
    have hlast : q % 10 ≠ 0 := by
      intro h0
      refine h.least k (by omega) ?_
      obtain ⟨p, hp⟩ : 10 ∣ q := Nat.dvd_of_mod_eq_zero h0
      refine ⟨p, ?_⟩
      have : x * 10 ^ k * 10 = y * p * 10 := by rw [Nat.mul_assoc, ← Nat.pow_succ, hq, hp, Nat.mul_comm 10 p, Nat.mul_assoc]
      omega
    have hm10 : q % 10 ^ (k + 1) % 10 = q % 10 := by rw [Nat.pow_succ, Nat.mul_comm, Nat.mod_mul_right_mod]
    have hne : UInt8.ofNat (48 + q % 10 ^ (k + 1) % 10) ≠ 48 := by
      intro e
      have := congrArg UInt8.toNat e
      rw [hm10, u8_toNat (by omega)] at this
      have : 48 + q % 10 = 48 := this
      omega
    have e1 : Lib.decDigits (q / 10 ^ (k + 1)) ++ 46 :: (pad (k + 1) (q % 10 ^ (k + 1)) ++ List.replicate (m - (k + 1)) 48)
        = (Lib.decDigits (q / 10 ^ (k + 1)) ++ 46 :: pad k (q % 10 ^ (k + 1) / 10)) ++ [UInt8.ofNat (48 + q % 10 ^ (k + 1) % 10)] ++ List.replicate (m - (k + 1)) 48 := by simp [pad]
    rw [e1, trimR_snoc _ _ _ hne]
    have e3 : (Lib.decDigits (q / 10 ^ (k + 1)) ++ 46 :: pad k (q % 10 ^ (k + 1) / 10)) ++ [UInt8.ofNat (48 + q % 10 ^ (k + 1) % 10)] = fx q (k + 1) := by
      unfold fx; rw [if_neg (by omega)]; simp [pad]
    rw [e3]
    unfold Lib.trimSuffix
    rw [if_neg]
    rw [← e3]
    unfold Lib.hasSuffix
    intro hs
    rw [List.isSuffixOf_iff_suffix] at hs
    obtain ⟨t, ht⟩ := hs
    have h2 := congrArg List.getLast? ht
    rw [List.getLast?_append, List.getLast?_append] at h2
    have h4 : (46 : UInt8) = UInt8.ofNat (48 + q % 10 ^ (k + 1) % 10) := Option.some.inj h2
    have h2 := congrArg UInt8.toNat h4
    rw [u8_toNat (by omega)] at h2
    have : (46 : Nat) = 48 + q % 10 ^ (k + 1) % 10 := h2
    omega
end Go.Proofs.YtdpbceipiappjaaGreatDoor

namespace Go.Proofs.YtdpbceipiappjaaGreatDoor
set_option maxRecDepth 20000
open Go.RowKit

/-- A text of digits, not too long. -/
structure IsNum (l : List UInt8) : Prop where
  pos : 0 < l.length
  len : l.length ≤ 400
  dig : Dig l

theorem byte_eq (s : ByteArray) (k : Nat) (h : k < s.size) : s.data.toList[k]? = some s[k] := by
  have h' : k < s.data.toList.length := by rw [← Lib.size_eq]; exact h
  rw [List.getElem?_eq_getElem h']; rfl
theorem Dig.at {s : ByteArray} (h : Dig s.data.toList) (k : Nat) (hk : k < s.size) : 48 ≤ s[k].toNat ∧ s[k].toNat ≤ 57 :=
  h _ (List.mem_of_getElem? (byte_eq s k hk))
theorem take_byte (s : ByteArray) (k : Nat) (h : k < s.size) : s.data.toList.take (k + 1) = s.data.toList.take k ++ [s[k]] := by
  rw [List.take_add_one, byte_eq s k h]; rfl

/-- What the loop of timesTen keeps: k limbs are done. -/
structure TtAt (ws wr : World) (lo : Nat) (A : Option Addr) (c n : Nat) (l : List Nat) (d k cy : Nat) (L : List Nat) : Prop where
  own : Own wr lo A c n L
  rest : ∀ j, k ≤ j → dg L j = dg l j
  sum : S (fun i => dg L i) k + 4294967296 ^ k * cy = 10 * S (fun i => dg l i) k + d
  below : Below lo ws wr
theorem TtAt.step {ws wr : World} {lo g c n : Nat} {l : List Nat} {d k cy : Nat} {L : List Nat} (h : TtAt ws wr lo (some ⟨g, 0, none⟩) c n l d k cy L) (hk : k < n) (hg : lo ≤ g) (v : Int) (hv : v = (((cy + dg l k * 10) % 4294967296 : Nat) : Int)) :
    TtAt ws (wr.setCell ⟨g, k, none⟩ (.int .u32 v)) lo (some ⟨g, 0, none⟩) c n l d (k + 1) ((cy + dg l k * 10) / 4294967296) (L.set k ((cy + dg l k * 10) % 4294967296)) := by
  subst hv
  have hL := h.own.len
  refine ⟨h.own.set (by omega), fun j hj => ?_, ?_, h.below.setCell hg _⟩
  · rw [dg_set_ne _ _ _ _ (by omega)]; exact h.rest j (by omega)
  · have e1 : S (fun i => dg (L.set k ((cy + dg l k * 10) % 4294967296)) i) k = S (fun i => dg L i) k := S_congr fun i hi => dg_set_ne _ _ _ _ (by omega)
    rw [S, S, e1, dg_set_eq _ _ _ (by omega), Nat.pow_succ, Nat.mul_assoc, Nat.add_assoc, ← Nat.mul_add, Nat.mul_add 10, show (cy + dg l k * 10) % 4294967296 + 4294967296 * ((cy + dg l k * 10) / 4294967296) = cy + dg l k * 10 by omega, Nat.mul_add, ← Nat.add_assoc, h.sum]
    have : 10 * (4294967296 ^ k * dg l k) = 4294967296 ^ k * (dg l k * 10) := by rw [Nat.mul_left_comm, Nat.mul_comm 10 (dg l k)]
    rw [this]; omega
/-- The end without a carry. -/
theorem TtAt.done0 {ws wr : World} {lo : Nat} {A : Option Addr} {c n x d : Nat} {L : List Nat} (h : TtAt ws wr lo A c n (lim x) d n 0 L) (hn : n = (lim x).length) :
    n = (lim (10 * x + d)).length ∧ Own wr lo A c (lim (10 * x + d)).length (lim (10 * x + d)) := by
  have hL := h.own.len
  have h1 := h.sum
  rw [S_more _ _ (by omega), S_more _ _ (by omega), val_lim] at h1
  have hv : val L = 10 * x + d := by omega
  have h2 := h.own.lim
  rw [hv] at h2
  have h3 : (lim (10 * x + d)).length ≤ n := by rw [← hv, ← hL]; exact lim_len_le h.own.l32
  have h4 : (lim x).length ≤ (lim (10 * x + d)).length := lim_len_mono (by omega)
  exact ⟨by omega, h2⟩
/-- The end with one. -/
theorem TtAt.done1 {ws wr : World} {lo : Nat} {A : Option Addr} {c n x d cy : Nat} {L : List Nat} (h : TtAt ws wr lo A c n (lim x) d n cy L) (hn : n = (lim x).length) (h0 : 0 < cy) (hc : cy < 4294967296) :
    L ++ [cy] = lim (10 * x + d) := by
  have hL := h.own.len
  have h1 := h.sum
  rw [S_more _ _ (by omega), S_more _ _ (by omega), val_lim] at h1
  have hv : val (L ++ [cy]) = 10 * x + d := by rw [val_snoc, hL]; exact h1
  rw [← hv]
  refine (lim_val (h.own.l32.snoc hc) (.inr ?_)).symm
  have : dg (L ++ [cy]) ((L ++ [cy]).length - 1) = cy := by
    rw [dg_eq]; simp
  rw [this]; omega

theorem conv_u32_nat (x : Nat) : IntKind.u32.wrap (x : Int) = ((x % 4294967296 : Nat) : Int) := by rw [IntKind.wrap_u32]; omega

theorem nu_len' {m : List UInt8} (h : Dig m) (h2 : m.length ≤ 400) : (lim (nu m)).length ≤ 50 := by
  refine lim_len_lt ?_
  have h1 := nu_lt h
  obtain ⟨q, hq⟩ : ∃ q : Nat, q = 50 := ⟨_, rfl⟩
  rw [← hq]
  have h3 : 10 ^ m.length ≤ 10 ^ (8 * q) := Nat.pow_le_pow_right (by omega) (by omega)
  have h4 : 10 ^ (8 * q) ≤ 4294967296 ^ q := by
    rw [Nat.pow_mul]; exact Nat.pow_le_pow_left (by omega) _
  omega
theorem nu_len {l : List UInt8} (h : IsNum l) (k : Nat) : (lim (nu (l.take k))).length ≤ 50 :=
  nu_len' (h.dig.take k) (by rw [List.length_take]; have := h.len; omega)
theorem nu_take_snoc (s : ByteArray) (k : Nat) (h : k < s.size) : nu (s.data.toList.take (k + 1)) = 10 * nu (s.data.toList.take k) + (s[k].toNat - 48) := by
  rw [take_byte s k h, nu_snoc, Nat.mul_comm]

end Go.Proofs.YtdpbceipiappjaaGreatDoor

namespace Go.Proofs.YtdpbceipiappjaaGreatDoor
set_option maxRecDepth 20000
open Go.RowKit

/-- A row of one limb, of a literal of the call's own. -/
theorem Row.lit1 (w : World) (x : Nat) (v : Int) (hv : v = (x : Int)) (hx : x < 4294967296) : Row (w.alloc (.cells #[.int .u32 v] 69)) 0 (some ⟨w.heap.size, 0, none⟩) 1 [x] := Row.one hv hx (Nat.zero_le _)
theorem Row.lit2 (w : World) (o : Obj) (x : Nat) (v : Int) (hv : v = (x : Int)) (hx : x < 4294967296) : Row ((w.alloc o).alloc (.cells #[.int .u32 v] 69)) 0 (some ⟨w.heap.size + 1, 0, none⟩) 1 [x] := by
  have := Row.lit1 (w.alloc o) x v hv hx
  simpa using this
theorem Below.undrew' {w w' : World} (h : Below w.drew.heap.size w.drew w') : Below w.heap.size w w' := ⟨h.os, h.tape, h.output, h.size, h.block⟩
theorem Bd.ofL {x p : Nat} (h : (lim x).length ≤ p) : Bd x p := by
  have h6 := val_lt (L32_lim x)
  rw [val_lim] at h6
  exact Nat.lt_of_lt_of_le h6 (Nat.pow_le_pow_right (by omega) h)
theorem val_one (x : Nat) : val [x] = x := by simp [val]

/-- What the document's Parse answers of a text of the right length. -/
def ParseP (l : List UInt8) (w : World) (e : Ending) (w' : World) : Prop :=
  ∃ v, e = .returned v ∧ Below w.heap.size w w' ∧ (Dig l → ∃ A c, v = .tuple #[.slice A (lim (nu l)).length c, .bool true] ∧ Own w' w.heap.size A c (lim (nu l)).length (lim (nu l))) ∧ (¬ Dig l → v = .tuple #[.slice none 0 0, .bool false])

end Go.Proofs.YtdpbceipiappjaaGreatDoor

namespace Go.Proofs.YtdpbceipiappjaaGreatDoor
set_option maxRecDepth 20000
open Go.RowKit

theorem str_append (l m : List UInt8) : (⟨l.toArray⟩ : ByteArray) ++ ⟨m.toArray⟩ = ⟨(l ++ m).toArray⟩ := by
  apply ByteArray.ext
  rw [ByteArray.data_append]
  simp
theorem dec_len_lim {x p : Nat} (hp : 0 < p) (h : (lim x).length ≤ p) : (Lib.decDigits x).length ≤ 10 * p := by
  refine dec_len_le (by omega) ?_
  have h1 : x < 4294967296 ^ p := Bd.ofL h
  have h2 : 4294967296 ^ p ≤ (10 ^ 10) ^ p := Nat.pow_le_pow_left (by omega) _
  rw [Nat.pow_mul]
  omega
/-- What the loop of the document's Print keeps. -/
structure RPrAt (w wx : World) (x g : Nat) (A : Option Addr) (r : List UInt8) : Prop where
  row : Row wx 0 A (lim g).length (lim g)
  txt : (if g = 0 then r else Lib.decDigits g ++ r) = Lib.decDigits x
  below : Below w.heap.size w wx
theorem RPrAt.len {w wx : World} {x g : Nat} {A : Option Addr} {r : List UInt8} (h : RPrAt w wx x g A r) : r.length ≤ (Lib.decDigits x).length := by
  rw [← h.txt]
  split
  · exact Nat.le_refl _
  · rw [List.length_append]; omega
theorem RPrAt.step {w wx w2 : World} {x g : Nat} {A A2 : Option Addr} {r : List UInt8} (h : RPrAt w wx x g A r) (hg : g ≠ 0) (hr : Row w2 0 A2 (lim (g / 10)).length (lim (g / 10))) (hb : Below wx.heap.size wx w2) :
    RPrAt w w2 x (g / 10) A2 (UInt8.ofNat (48 + g % 10) :: r) := by
  refine ⟨hr, ?_, h.below.trans (hb.mono h.below.size)⟩
  have h1 := h.txt
  rw [if_neg hg] at h1
  rw [← h1]
  by_cases h2 : g < 10
  · rw [if_pos (by omega), dec_small h2, Nat.mod_eq_of_lt h2]; rfl
  · rw [if_neg (by omega), dec_big h2, List.append_assoc]; rfl

set_option maxHeartbeats 1600000 in
theorem rPrint_any (A : Option Addr) (n c : Nat) (a : List Nat) (x : Nat) (w : World) (hx : val a = x) (hn : n ≤ 1000) (hcn : n ≤ c) (ha : Row w 0 A n a) :
    Calls Tryz.prog 70 #[.slice A n c] w fun e w' => e = .returned (.string ⟨(Lib.decDigits x).toArray⟩) ∧ Below w.heap.size w w' := by
  have hlen : (lim x).length ≤ 1000 := by rw [← hx]; have := lim_len_le ha.l32; have := ha.len; omega
  have HV := Lib.hid hx
  clear hx
  by_cases h0 : x = 0
  · have HZ : Hid ((⟨(Lib.decDigits x).toArray⟩ : ByteArray) = ⟨#[48]⟩) := by
      show _ = _
      rw [h0, dec_small (by omega)]; rfl
    have HL : Hid ((lim x).length = 0) := by show _ = _; rw [h0, lim_zero]; rfl
    clear h0
    go_enter Tryz.func70, Tryz.ntmps70
    go_wp2_with fail
    refine (rTrim_any A n c a _ (by omega) hcn ha).mono ?_
    rintro e w1 ⟨A2, c2, rfl, ho, hb⟩
    rw [HV.out, HL.out]
    have HB := Lib.hid hb
    clear hb ho
    go_wp2
    go_ret
    exact ⟨by rw [HZ.out]; rfl, HB.out⟩
  · have HP : Hid (0 < (lim x).length) := by show _ < _; rw [lim_pos h0]; simp
    have HX := Lib.hid h0
    clear h0
    go_enter Tryz.func70, Tryz.ntmps70
    go_wp2_with fail
    refine (rTrim_any A n c a _ (by omega) hcn ha).mono ?_
    rintro e w1 ⟨A2, c2, rfl, ho, hb⟩
    rw [HV.out] at ho ⊢
    have HST : Hid (RPrAt w w1 x x A2 []) := ⟨ho.row.lower (Nat.zero_le _), by rw [if_neg HX.out]; simp, hb⟩
    clear hb ho ha
    have hbq : (((lim x).length : Int) == 0) = false := by rw [beq_eq_false_iff_ne]; have := HP.out; omega
    clear HX
    go_wp2
    go_loopg [3, 4] x (fun g t s wx => ∃ (A2 : Option Addr) (c2 : Nat) (r : List UInt8), t = .slice A2 (lim g).length c2 ∧ s = .string ⟨r.toArray⟩ ∧ (lim g).length ≤ 1000 ∧ Hid (RPrAt w wx x g A2 r))
    case atStart => exact ⟨A2, c2, [], rfl, rfl, hlen, HST⟩
    case round =>
      obtain ⟨A2, c2, r, rfl, rfl, hlg, HA⟩ := hrel
      clear HST HP hbq
      by_cases hg : gk = 0
      · have HL : Hid ((lim gk).length = 0) := by show _ = _; rw [hg, lim_zero]; rfl
        have HE : Hid ((⟨r.toArray⟩ : ByteArray) = ⟨(Lib.decDigits x).toArray⟩) := by
          have := HA.out.txt
          rw [if_pos hg] at this
          show _ = _
          rw [this]
        have HB := Lib.hid HA.out.below
        have hl0 : (lim gk).length ≤ 0 := by have := HL.out; omega
        clear HA hg
        go_wp2
        go_ret
        exact ⟨by rw [← HE.out]; rfl, HB.out⟩
      · have hl0 : 0 < (lim gk).length := by rw [lim_pos hg]; simp
        have hrl0 : r.length ≤ 10 * 1000 := Nat.le_trans HA.out.len (dec_len_lim (by omega) hlen)
        have STEP := Lib.hid (fun w2 A3 => HA.out.step (w2 := w2) (A2 := A3) hg)
        have HR := Lib.hid HA.out.row
        have hq : (gk / 10) < gk := by omega
        have hl10 : (lim (gk / 10)).length ≤ 1000 := by
          have := lim_len_mono (x := gk) (y := gk / 10) (by omega)
          omega
        clear HA hg
        go_wp2_with fail
        refine (small_any _ _ _ 10 (lim gk) _ (by omega) (by omega) (by omega) HR.out).mono ?_
        rintro e w2 ⟨A3, c3, rfl, ho, hb⟩
        rw [val_lim] at ho ⊢
        have HS := Lib.hid (STEP.out w2 A3 (ho.row.lower (Nat.zero_le _)) hb)
        clear STEP HR ho hb
        obtain ⟨b, hb⟩ : ∃ b, b = UInt8.ofNat (48 + gk % 10) := ⟨_, rfl⟩
        rw [← hb] at HS
        have hb2 : b.toNat = 48 + gk % 10 := by rw [hb, u8_toNat (by omega)]
        clear hb
        have hcv : (Go.convert 108 9 (.slice (some ⟨w2.heap.size, 0, none⟩) 1 1)).run Tryz.prog (w2.alloc (.cells #[.int .u8 (48 + (gk : Int) % 10)] 5)) = .ok (.string ⟨#[b]⟩) (w2.alloc (.cells #[.int .u8 (48 + (gk : Int) % 10)] 5)) := by
          refine run_convert_bytes_back (P := Tryz.prog) _ 108 9 5 ⟨w2.heap.size, 0, none⟩ 1 [b] Tryz.underlying108 Tryz.underlying5 Tryz.underlying9 (fun j hj => ?_)
          have hj0 : j = 0 := by simpa using hj
          subst hj0
          simp only [List.getElem_cons_zero]
          rw [hb2, show (Addr.add ⟨w2.heap.size, 0, none⟩ 0) = ⟨w2.heap.size, 0, none⟩ by rfl, World.cell?_alloc_at _ _ _ _ rfl]
          rfl
        have hrl : r.length ≤ 100000 := by omega
        have HS2 : Hid (RPrAt w (w2.alloc (.cells #[.int .u8 (48 + (gk : Int) % 10)] 5)) x (gk / 10) A3 ([b] ++ r)) :=
          ⟨HS.out.row.alloc _, HS.out.txt, HS.out.below.alloc HS.out.below.size _⟩
        clear hb2 HS
        go_wp2
        go_roundg (gk / 10)
        case rel => exact ⟨A3, c3, _, rfl, by rw [← str_append], hl10, HS2⟩
        case measure => exact hq
end Go.Proofs.YtdpbceipiappjaaGreatDoor

namespace Go.Proofs.YtdpbceipiappjaaGreatDoor
set_option maxRecDepth 20000
open Go.RowKit

/-- A number's groups of nine digits, the lowest first. -/
def grp (x : Nat) : List Nat := if h : x < 1000000000 then [x] else (x % 1000000000) :: grp (x / 1000000000)
  decreasing_by omega
theorem grp_small {x : Nat} (h : x < 1000000000) : grp x = [x] := by rw [grp, dif_pos h]
theorem grp_big {x : Nat} (h : ¬ x < 1000000000) : grp x = (x % 1000000000) :: grp (x / 1000000000) := by rw [grp, dif_neg h]
theorem grp_pos (x : Nat) : 0 < (grp x).length := by
  by_cases h : x < 1000000000
  · rw [grp_small h]; simp
  · rw [grp_big h]; simp
theorem grp_len {k x : Nat} (hk : 0 < k) (h : x < 1000000000 ^ k) : (grp x).length ≤ k := by
  induction k generalizing x with
  | zero => omega
  | succ k ih =>
    by_cases h1 : x < 1000000000
    · rw [grp_small h1]; simp
    · rw [grp_big h1, List.length_cons]
      have hk0 : 0 < k := by
        rcases Nat.eq_zero_or_pos k with rfl | h0
        · simp at h; omega
        · exact h0
      have := ih hk0 (x := x / 1000000000) (by rw [Nat.pow_succ] at h; exact Nat.div_lt_of_lt_mul (by rw [Nat.mul_comm]; exact h))
      omega
theorem grp_len_lim {x p : Nat} (hp : 0 < p) (h : (lim x).length ≤ p) : (grp x).length ≤ 2 * p := by
  refine grp_len (by omega) ?_
  have h1 : x < 4294967296 ^ p := Bd.ofL h
  have h2 : 4294967296 ^ p ≤ (1000000000 ^ 2) ^ p := Nat.pow_le_pow_left (by omega) _
  rw [Nat.pow_mul]
  omega
theorem grp_split (x : Nat) : (x % 1000000000) :: (if x / 1000000000 = 0 then [] else grp (x / 1000000000)) = grp x := by
  by_cases h : x < 1000000000
  · rw [grp_small h, if_pos (by omega), Nat.mod_eq_of_lt h]
  · rw [grp_big h, if_neg (by omega)]
theorem grp_dg : ∀ (i x : Nat), i < (grp x).length → dg (grp x) i = x / 1000000000 ^ i % 1000000000 ∧ (i + 1 < (grp x).length → x / 1000000000 ^ (i + 1) ≠ 0) ∧ (i + 1 = (grp x).length → x / 1000000000 ^ i < 1000000000) := by
  intro i
  induction i with
  | zero =>
    intro x h
    by_cases h1 : x < 1000000000
    · rw [grp_small h1]; simp; omega
    · rw [grp_big h1]
      have hp := grp_pos (x / 1000000000)
      refine ⟨by simp, fun _ => by rw [Nat.zero_add, Nat.pow_one]; omega, fun h => ?_⟩
      rw [List.length_cons] at h
      omega
  | succ i ih =>
    intro x h
    by_cases h1 : x < 1000000000
    · rw [grp_small h1] at h; simp at h
    · rw [grp_big h1, List.length_cons] at h ⊢
      obtain ⟨a, b, c⟩ := ih (x / 1000000000) (by omega)
      have e : ∀ j, x / 1000000000 ^ (j + 1) = x / 1000000000 / 1000000000 ^ j := fun j => by rw [Nat.pow_succ, Nat.mul_comm, Nat.div_div_eq_div_mul]
      refine ⟨?_, fun h2 => ?_, fun h2 => ?_⟩
      · rw [dg_succ, a, e]
      · rw [e (i + 1)]; exact b (by omega)
      · rw [e]; exact c (by omega)
/-- The digits from a group on. -/
theorem grp_text {x i : Nat} (hi : i + 1 < (grp x).length) : Lib.decDigits (x / 1000000000 ^ i) = Lib.decDigits (x / 1000000000 ^ (i + 1)) ++ pad 9 (dg (grp x) i) := by
  obtain ⟨a, b, _⟩ := grp_dg i x (by omega)
  have hq := b hi
  rw [a]
  have e1 : x / 1000000000 ^ (i + 1) = x / 1000000000 ^ i / 1000000000 := by rw [Nat.pow_succ, Nat.div_div_eq_div_mul]
  rw [e1] at hq ⊢
  have h := dec_pad 9 hq (x / 1000000000 ^ i % 1000000000) (by omega)
  have e2 : x / 1000000000 ^ i / 1000000000 * 10 ^ 9 + x / 1000000000 ^ i % 1000000000 = x / 1000000000 ^ i := by omega
  rw [e2] at h
  exact h

theorem Tryz.info5 : (Tryz.prog.info? 5).map (fun i => (i.zero, i.size, i.bytes)) = some (some (.int .u8 0), 1, 1) := by kernel_rfl

/-- What the loop of appendGroup keeps: j digits are still to come. -/
structure AgAt (w wx : World) (B u : Nat) (l : List UInt8) (j : Nat) (v : Value) : Prop where
  own : wx.ownsRow B 5 1 v (l.length + (9 - j)) (Lib.byteCells (l ++ pad (9 - j) (u / 10 ^ j)))
  below : Below B w wx
theorem pad_next {j u : Nat} (hj : j + 1 ≤ 9) : pad (9 - j) (u / 10 ^ j) = pad (8 - j) (u / 10 ^ (j + 1)) ++ [UInt8.ofNat (48 + u / 10 ^ j % 10)] := by
  have e : 9 - j = (8 - j) + 1 := by omega
  rw [e, pad, Nat.pow_succ, Nat.div_div_eq_div_mul]
theorem AgAt.step {w w2 : World} {B u : Nat} {l : List UInt8} {j : Nat} {v2 : Value} (hj : j + 1 ≤ 9) (hb : Below B w w2) {z : Int} (hz : z = ((48 + u / 10 ^ j % 10 : Nat) : Int))
    (ho : w2.ownsRow B 5 1 v2 (l.length + (8 - j) + 1) (Lib.byteCells (l ++ pad (8 - j) (u / 10 ^ (j + 1))) ++ [.int .u8 z])) : AgAt w w2 B u l j v2 := by
  refine ⟨?_, hb⟩
  have e : Lib.byteCells (l ++ pad (9 - j) (u / 10 ^ j)) = Lib.byteCells (l ++ pad (8 - j) (u / 10 ^ (j + 1))) ++ [.int .u8 z] := by
    rw [pad_next hj, ← List.append_assoc]
    simp only [Lib.byteCells, List.map_append, List.map_cons, List.map_nil]
    rw [u8_toNat (by omega), hz]
  rw [e, show l.length + (9 - j) = l.length + (8 - j) + 1 by omega]
  exact ho

set_option maxHeartbeats 1600000 in
theorem appendGroup_any (B u : Nat) (l : List UInt8) (v : Value) (w : World) (hu : u < 1000000000) (hl : l.length ≤ 1000000) (hB : B ≤ w.heap.size) (ho : w.ownsRow B 5 1 v l.length (Lib.byteCells l)) :
    Calls Tryz.prog 136 #[v, .int .u32 (u : Int)] w fun e w' => ∃ v2, e = .returned v2 ∧ w'.ownsRow B 5 1 v2 (l ++ pad 9 u).length (Lib.byteCells (l ++ pad 9 u)) ∧ Below B w w' := by
  obtain ⟨i0, hi, hz0, hz1, hz2⟩ := info_parts Tryz.info5
  have HST : Hid (AgAt w w B u l 9 v) := by
    refine ⟨?_, Below.refl _ _⟩
    simpa [pad] using ho
  clear ho
  go_enter Tryz.func136, Tryz.ntmps136
  go_wp2
  go_loopw [0, 5] (fun tv qv wr => ∃ (j q : Nat), j ≤ 9 ∧ qv = .int .u32 (q : Int) ∧ q ≤ 100000000 ∧ Hid (q = 10 ^ j / 10) ∧ Hid (AgAt w wr B u l j tv)) (fun _ qv _ => (intOf qv).toNat)
  case atStart => exact ⟨9, 100000000, by omega, by rfl, by omega, by show _ = _; omega, HST⟩
  case round =>
    obtain ⟨j, q, hj, rfl, hq8, HQ, HA⟩ := hrel
    clear HST
    rcases Nat.eq_zero_or_pos j with rfl | hj0
    · have hq0 : q ≤ 0 := by have : q = 10 ^ 0 / 10 := HQ.out; omega
      have HO : Hid (wr.ownsRow B 5 1 u0 (l ++ pad 9 u).length (Lib.byteCells (l ++ pad 9 u))) := by
        have := HA.out.own
        show wr.ownsRow _ _ _ _ _ _
        simpa [pad_len] using this
      have HB := Lib.hid HA.out.below
      clear HA
      go_wp2
      go_ret
      exact ⟨_, rfl, HO.out, HB.out⟩
    · obtain ⟨j, rfl⟩ : ∃ i, j = i + 1 := ⟨j - 1, by omega⟩
      have HQ2 : Hid (q = 10 ^ j) := by
        have : q = 10 ^ (j + 1) / 10 := HQ.out
        rw [Nat.pow_succ, Nat.mul_div_cancel _ (by omega)] at this
        exact this
      have hq1 : 1 ≤ q := by rw [HQ2.out]; exact ten_pos j
      have HQ3 : Hid (q / 10 = 10 ^ j / 10) := by show _ = _; rw [HQ2.out]
      have hz := HA.out.below.size
      have STEP : Hid (∀ w2 v2, Below B w w2 → w2.ownsRow B 5 1 v2 (l.length + (8 - j) + 1) (Lib.byteCells (l ++ pad (8 - j) (u / 10 ^ (j + 1))) ++ [.int .u8 (48 + (u : Int) / (q : Int) % 10)]) → AgAt w w2 B u l j v2) := fun w2 v2 hb ho =>
        AgAt.step (by omega) hb (by rw [HQ2.out]; rfl) ho
      have OWN := Lib.hid HA.out.own
      rw [show 9 - (j + 1) = 8 - j by omega] at OWN
      have HB := Lib.hid HA.out.below
      have LT := Lib.hid HA.out.own.lt
      have hd2 : (u : Int) / (q : Int) ≤ 1000000000 := by
        have h1 : u / q ≤ u := Nat.div_le_self _ _
        have h2 : (u : Int) / (q : Int) = ((u / q : Nat) : Int) := rfl
        rw [h2]; omega
      have hd1 : (0 : Int) ≤ (u : Int) / (q : Int) := Int.ediv_nonneg (by omega) (by omega)
      clear HA HQ HQ2
      go_wp2_with (at_builtin; refine wpList_append_own _ rfl _ _ 108 rfl B 5 i0 (.int .u8 0) 1 1 Tryz.underlying108 hi hz0 hz1 hz2 rfl (by decide) _ _ _ rfl (OWN.out.alloc _) ⟨wr.heap.size, 0, none⟩ 1 1 [Value.int .u8 (48 + (u : Int) / (q : Int) % 10)] rfl rfl ?c1 ?c2 ?c3 ?c4 ?c5 ?_)
      case c1 => intro j' u' hj'; match j', hj' with | 0, hj' => simp at hj'; subst hj'; simp [Addr.add]
      case c2 => intro u' hu'; simp at hu'; subst hu'; rfl
      case c3 => unfold maxLen; omega
      case c4 => omega
      case c5 => simp; omega
      intro v2 w2 hown2 hgrow _
      have HA2 := Lib.hid (STEP.out w2 v2 ((HB.out.alloc (by omega) _).grown hgrow (by simp; omega) (fun k hk => (LT.out k hk).1)) hown2)
      clear STEP OWN HB LT hown2 hgrow
      go_wp2
      go_roundw
      case rel => exact ⟨j, q / 10, by omega, by go_num, by omega, HQ3, HA2⟩
      case measure => simp [intOf]; omega
end Go.Proofs.YtdpbceipiappjaaGreatDoor

namespace Go.Proofs.YtdpbceipiappjaaGreatDoor
set_option maxRecDepth 20000
open Go.RowKit

theorem Own.at {w w' : World} {lo B n c g : Nat} {l : List Nat} (h : Own w lo (some ⟨g, 0, none⟩) c n l) (hb : Below B w w') (hg : g < B) : Own w' lo (some ⟨g, 0, none⟩) c n l := by
  have h1 := h.own
  refine ⟨h.l32, h1.1, ?_⟩
  rcases h1.2 with ⟨hv, _⟩ | ⟨g', cap, cur, hv, hlo, hh, rest⟩
  · cases hv
  · have e : g' = g := by injection hv with e _ _; injection e with e; injection e with e; exact e.symm
    subst e
    exact .inr ⟨g', cap, cur, hv, hlo, (hb.block g' hg).trans hh, rest⟩
theorem Own.lit1 (w : World) (x : Nat) (v : Int) (hv : v = (x : Int)) (hx : x < 4294967296) : Own (w.alloc (.cells #[.int .u32 v] 69)) w.heap.size (some ⟨w.heap.size, 0, none⟩) 1 1 [x] := by
  subst hv
  exact ⟨L32.cons hx L32.nil, rfl, .inr ⟨w.heap.size, 1, _, rfl, Nat.le_refl _, heap_alloc_new w _, Nat.le_refl _, by unfold maxLen; omega, rfl, rfl⟩⟩
/-- What the loop of digitGroups keeps. -/
structure DgAt (w wl wx : World) (g c x r : Nat) (A : Option Addr) (d : Nat) (ls : List Nat) : Prop where
  rest : Own wx w.heap.size (some ⟨g, 0, none⟩) c (lim r).length (lim r)
  own : Own wx wl.heap.size A d ls.length ls
  txt : ls ++ (if r = 0 then [] else grp r) = grp x
  below : Below w.heap.size w wx
  size : wl.heap.size ≤ wx.heap.size
theorem DgAt.len {w wl wx : World} {g c x r : Nat} {A : Option Addr} {d : Nat} {ls : List Nat} (h : DgAt w wl wx g c x r A d ls) : ls.length ≤ (grp x).length := by
  rw [← h.txt, List.length_append]; omega
theorem DgAt.txt_step {w wl wx : World} {g c x r : Nat} {A : Option Addr} {d : Nat} {ls : List Nat} (h : DgAt w wl wx g c x r A d ls) (hr : r ≠ 0) : (ls ++ [r % 1000000000]) ++ (if r / 1000000000 = 0 then [] else grp (r / 1000000000)) = grp x := by
  have h1 := h.txt
  rw [if_neg hr] at h1
  rw [← h1, List.append_assoc]
  congr 1
  exact grp_split r

set_option maxHeartbeats 3200000 in
theorem digitGroups_any (A : Option Addr) (n c : Nat) (a : List Nat) (x : Nat) (w : World) (hx : val a = x) (hn : n ≤ 1000) (hcn : n ≤ c) (ha : Row w 0 A n a) :
    Calls Tryz.prog 134 #[.slice A n c] w fun e w' => ∃ X cx, e = .returned (.slice X (grp x).length cx) ∧ Own w' w.heap.size X cx (grp x).length (grp x) ∧ Below w.heap.size w w' := by
  have hlen : (lim x).length ≤ 1000 := by rw [← hx]; have := lim_len_le ha.l32; have := ha.len; omega
  have hgl : (grp x).length ≤ 2 * 1000 := grp_len_lim (by omega) hlen
  have HV := Lib.hid hx
  clear hx
  go_enter Tryz.func134, Tryz.ntmps134
  go_wp2_with fail
  refine (Trim_any A n c a _ (by omega) hcn ha).mono ?_
  rintro e w1 ⟨g, rfl, ho, hb⟩
  rw [HV.out] at ho ⊢
  clear ha
  have hg1 := ho.own.lt g rfl
  have HB1 := Lib.hid hb
  have hs1 := hb.size
  clear hb
  go_wp2_with fail
  refine (divideByLimb_any w.heap.size g (lim x).length (lim x).length 1000000000 (lim x) _ (by omega) (by omega) (by omega) ho).mono ?_
  rintro e w2 ⟨l', rfl, ho2, hv2, hg2⟩
  rw [val_lim] at hv2 ⊢
  have HB2 : Hid (Below w.heap.size w w2) := HB1.out.trans (below_of_grown_row hg2 hg1.1 hs1)
  have hs2 := hg2.size
  have hl2 := ho2.len
  have HO2 := Lib.hid ho2
  have hr2 := ho2.row.lower (Nat.zero_le _)
  have HV2 := Lib.hid hv2
  have hxr : x % 1000000000 < 4294967296 := by omega
  have HL2 := Lib.hid hl2
  clear ho ho2 hv2 hg2 hl2 HB1
  go_wp2_with fail
  have HG : Hid (Own (w2.alloc (.cells #[.int .u32 ((x : Int) % 1000000000)] 69)) w1.heap.size (some ⟨w2.heap.size, 0, none⟩) 1 [x % 1000000000].length [x % 1000000000]) :=
    (Own.lit1 w2 (x % 1000000000) _ (by rfl) hxr).lower hs2
  refine (head_any _ _ _ l' _ (by omega) (Nat.le_refl _) (hr2.alloc _)).mono ?_
  rintro e w3 ⟨rfl, rfl⟩
  rw [HV2.out]
  have HST : Hid (DgAt w w1 (w2.alloc (.cells #[.int .u32 ((x : Int) % 1000000000)] 69)) g (lim x).length x (x / 1000000000) (some ⟨w2.heap.size, 0, none⟩) 1 [x % 1000000000]) := by
    have hl := HO2.out.lim
    rw [HV2.out] at hl
    exact ⟨hl.alloc _, HG.out, grp_split x, HB2.out.alloc HB2.out.size _, by simp; omega⟩
  clear HO2 hr2 HV2 HG HB2 HL2
  go_wp2
  go_loopg [3, 4] (x / 1000000000) (fun r rv gv wx => ∃ (X : Option Addr) (d : Nat) (ls : List Nat), rv = .slice (some ⟨g, 0, none⟩) (lim r).length (lim x).length ∧ gv = .slice X ls.length d ∧ (lim r).length ≤ (lim x).length ∧ Hid (DgAt w w1 wx g (lim x).length x r X d ls))
  case atStart => exact ⟨_, 1, [x % 1000000000], rfl, rfl, lim_len_mono (Nat.div_le_self _ _), HST⟩
  case round =>
    obtain ⟨X, d, ls, rfl, rfl, hlr, HA⟩ := hrel
    clear HST
    by_cases hr : gk = 0
    · have hl0 : (lim gk).length ≤ 0 := by rw [hr, lim_zero]; simp
      have HE : Hid (ls = grp x) := by
        have := HA.out.txt
        rw [if_pos hr, List.append_nil] at this
        exact this
      have HO := Lib.hid (HA.out.own.lower hs1)
      have HB := Lib.hid HA.out.below
      clear HA hr
      go_wp2
      go_ret
      have HO2 := HO.out
      rw [HE.out] at HO2
      exact ⟨X, d, by rw [← HE.out]; rfl, HO2, HB.out⟩
    · have hl0 : 0 < (lim gk).length := by rw [lim_pos hr]; simp
      have hq : gk / 1000000000 < gk := by omega
      have hll := HA.out.len
      have HTX := Lib.hid (HA.out.txt_step hr)
      have hmono : (lim (gk / 1000000000)).length ≤ (lim gk).length := lim_len_mono (Nat.div_le_self _ _)
      have HR := Lib.hid HA.out.rest
      have HO := Lib.hid HA.out.own
      have HB := Lib.hid HA.out.below
      have hsz := HA.out.size
      have hxr : gk % 1000000000 < 4294967296 := by omega
      clear HA hr
      go_wp2_with fail
      refine (divideByLimb_any w.heap.size g (lim gk).length (lim x).length 1000000000 (lim gk) _ (by omega) (by omega) (by omega) HR.out).mono ?_
      rintro e w2 ⟨l', rfl, ho2, hv2, hg2⟩
      rw [val_lim] at hv2 ⊢
      have HB2 : Hid (Below w.heap.size w w2) := HB.out.trans (below_of_grown_row hg2 hg1.1 HB.out.size)
      have hs2 := hg2.size
      have HOG : Hid (Own w2 w1.heap.size X d ls.length ls) := HO.out.grown hg2 (by
        intro ad had
        subst had
        have := HO.out.own.lt ad.block rfl
        simp; omega)
      have HR2 := Lib.hid ho2
      have HV2 := Lib.hid hv2
      clear ho2 hv2 hg2 HO HB HR
      go_wp2_with (at_builtin; refine wpl_append rfl _ _ rfl rfl rfl (HOG.out.alloc _) (Row.one (x := gk % 1000000000) (lo := 0) ?c1 ?c2 ?c3) ?c4 ?c5 ?_)
      case c1 => rfl
      case c2 => exact hxr
      case c3 => omega
      case c4 => omega
      case c5 => simp; omega
      intro A3 c3 w3 ho3 hg3
      have hb3 : Below w1.heap.size w2 w3 := ((Below.refl _ _).alloc (by omega) _).grown hg3 (by simp; omega) (by
        intro q hq
        cases X with
        | none => cases hq
        | some ad =>
          have := HOG.out.own.lt ad.block rfl
          simp at hq; subst hq; exact this.1)
      have HR3 : Hid (Own w3 w.heap.size (some ⟨g, 0, none⟩) (lim x).length (lim gk).length l') := HR2.out.at hb3 (by omega)
      have HB3 : Hid (Below w.heap.size w w3) := HB2.out.trans (hb3.mono hs1)
      have hs3 := hb3.size
      have HO3 := Lib.hid ho3
      have hr3 := HR3.out.row.lower (Nat.zero_le _)
      clear hb3 ho3 hg3 HR2 HOG HB2
      go_wp2_with fail
      refine (head_any _ _ _ l' _ (by omega) hlr hr3).mono ?_
      rintro e w4 ⟨rfl, rfl⟩
      rw [HV2.out]
      have HST2 : Hid (DgAt w w1 w3 g (lim x).length x (gk / 1000000000) A3 c3 (ls ++ [gk % 1000000000])) := by
        have hl := HR3.out.lim
        rw [HV2.out] at hl
        refine ⟨hl, ?_, HTX.out, HB3.out, by omega⟩
        rw [List.length_append]; exact HO3.out
      clear hr3 HV2 HR3 HO3 HB3 HTX
      go_wp2
      go_roundg (gk / 1000000000)
      case rel => exact ⟨A3, c3, _, rfl, by simp, by omega, HST2⟩
      case measure => exact hq
end Go.Proofs.YtdpbceipiappjaaGreatDoor

namespace Go.Proofs.YtdpbceipiappjaaGreatDoor
set_option maxRecDepth 20000
open Go.RowKit

/-- The library's table of powers of ten reads as its initialiser lays it. -/
def Tb (w : World) : Prop := Lib.TabIs Tryz.prog w "internal/strconv.uint64pow10" .u64 Lib.pow10Tab
theorem Tb.below {w w' : World} (h : Tb w) (hb : Below w.heap.size w w') : Tb w' := Lib.tabBelow_of_tabIs h w' hb

set_option maxHeartbeats 800000 in
theorem AppendUint_any (B u : Nat) (w : World) (hu : u < 4294967296) (hB : B ≤ w.heap.size) (ht : Tb w) :
    Calls Tryz.prog 135 #[.slice none 0 0, .int .u64 (u : Int), .int .i64 10] w fun e w' => ∃ v, e = .returned v ∧ w'.ownsRow B 5 1 v (Lib.decDigits u).length (Lib.byteCells (Lib.decDigits u)) ∧ Below B w w' := by
  have HT := Lib.hid ht
  clear ht
  go_enter Tryz.func135, Tryz.ntmps135
  go_wp2_with fail
  refine (Tryz.internal_strconv_AppendUint_10 B 0 u (by omega) (.slice none 0 0) [] _ (World.ownsRow_nil _ _ _ _) hB (by omega) HT.out).mono ?_
  rintro e w1 ⟨v1, rfl, hown1, hnx1, -⟩
  rw [Nat.zero_add, List.nil_append] at hown1
  have HO := Lib.hid hown1
  have HB := Lib.hid hnx1
  clear hown1 hnx1
  go_wp2
  go_ret
  exact ⟨v1, rfl, HO.out, HB.out⟩

theorem dec_len_mono {x y : Nat} (h : y ≤ x) : (Lib.decDigits y).length ≤ (Lib.decDigits x).length := by
  refine dec_len_le (dec_len_pos x) ?_
  rw [Lib.decDigits_length]
  exact Nat.lt_of_le_of_lt h (Lib.lt_pow_nDigits x)
/-- What the loop of Print keeps: k groups are still to come. -/
structure PrAt (w wx : World) (B x k : Nat) (v : Value) : Prop where
  own : wx.ownsRow B 5 1 v (Lib.decDigits (x / 1000000000 ^ k)).length (Lib.byteCells (Lib.decDigits (x / 1000000000 ^ k)))
  below : Below B w wx

set_option maxHeartbeats 3200000 in
theorem Print_any (A : Option Addr) (n c : Nat) (a : List Nat) (x : Nat) (w : World) (hx : val a = x) (hn : n ≤ 1000) (hcn : n ≤ c) (ha : Row w 0 A n a) (ht : Tb w) :
    Calls Tryz.prog 123 #[.slice A n c] w fun e w' => e = .returned (.string ⟨(Lib.decDigits x).toArray⟩) ∧ Below w.heap.size w w' := by
  have hlen : (lim x).length ≤ 1000 := by rw [← hx]; have := lim_len_le ha.l32; have := ha.len; omega
  have hgl : (grp x).length ≤ 2 * 1000 := grp_len_lim (by omega) hlen
  have hdl : (Lib.decDigits x).length ≤ 10 * 1000 := dec_len_lim (by omega) hlen
  have hgp := grp_pos x
  have HT := Lib.hid ht
  clear ht
  go_enter Tryz.func123, Tryz.ntmps123
  go_wp2_with fail
  refine (digitGroups_any A n c a x _ hx hn hcn ha).mono ?_
  rintro e w1 ⟨X, cx, rfl, ho, hb⟩
  clear ha hx
  have HT1 := Lib.hid (HT.out.below hb)
  have HB1 := Lib.hid hb
  have hr := ho.row.lower (Nat.zero_le _)
  have hs1 := hb.size
  clear ho hb HT
  obtain ⟨k, hk⟩ : ∃ k, (grp x).length = k + 1 := ⟨(grp x).length - 1, by omega⟩
  obtain ⟨b, off, rfl, hb0, hb1, hc⟩ := hr.mem hgp
  obtain ⟨g1, _, g3⟩ := grp_dg k x (by omega)
  have g4 := g3 hk.symm
  have hck := hc k (by omega)
  rw [g1, Nat.mod_eq_of_lt g4] at hck
  have HC := Lib.hid hc
  have HK := Lib.hid hk
  have e1 : ((k + 1 : Nat) : Int) - 1 = (k : Int) := by omega
  clear hc g1 g3
  rw [hk] at hr hgl ⊢
  clear hk hr hgp
  obtain ⟨q, hq⟩ : ∃ q, q = x / 1000000000 ^ k := ⟨_, rfl⟩
  rw [← hq] at hck g4
  have HQ := Lib.hid hq
  clear hq
  have hq32 : q < 4294967296 := by omega
  go_wp2_with fail
  refine (AppendUint_any w1.heap.size q _ (by omega) (Nat.le_refl _) HT1.out).mono ?_
  rintro e w2 ⟨v2, rfl, ho2, hb2⟩
  have HST : Hid (PrAt w1 w2 w1.heap.size x k v2) := by
    refine ⟨?_, hb2⟩
    rw [← HQ.out]; exact ho2
  clear ho2 hb2 hck HT1
  go_wp2
  go_loopw [5, 6] (fun tv iv wr => ∃ j : Nat, j ≤ k ∧ iv = .int .i64 ((j : Int) - 1) ∧ Hid (PrAt w1 wr w1.heap.size x j tv)) (fun _ iv _ => (intOf iv + 1).toNat)
  case atStart => exact ⟨k, Nat.le_refl _, by first | rfl | go_num, HST⟩
  case round =>
    obtain ⟨j, hj, rfl, HA⟩ := hrel
    clear HST
    rcases Nat.eq_zero_or_pos j with rfl | hj0
    · have hown := HA.out.own
      rw [Nat.pow_zero, Nat.div_one] at hown
      have HB := Lib.hid (HB1.out.trans (HA.out.below.mono hs1))
      have hpos := dec_len_pos x
      obtain ⟨l, hl⟩ : ∃ l, l = Lib.decDigits x := ⟨_, rfl⟩
      rw [← hl] at hown hpos hdl
      have HL := Lib.hid hl
      clear hl HA
      rcases hown.2 with ⟨-, h0⟩ | ⟨g, cap, cur, rfl, -, -, -, -, -, -⟩
      · omega
      · have hcv := run_convert_bytes_back (P := Tryz.prog) wr 108 9 5 ⟨g, 0, none⟩ cap l Tryz.underlying108 Tryz.underlying5 Tryz.underlying9 (fun j hj => hown.cells (g := g) rfl j _ (by simp [Lib.byteCells, hj]))
        clear hown
        go_wp2
        go_ret
        exact ⟨by rw [← HL.out]; rfl, HB.out⟩
    · obtain ⟨j, rfl⟩ : ∃ i, j = i + 1 := ⟨j - 1, by omega⟩
      have hd : dg (grp x) j < 1000000000 := by
        obtain ⟨a1, _, _⟩ := grp_dg j x (by rw [HK.out]; omega)
        rw [a1]; omega
      have HTX : Hid (Lib.decDigits (x / 1000000000 ^ j) = Lib.decDigits (x / 1000000000 ^ (j + 1)) ++ pad 9 (dg (grp x) j)) := grp_text (by rw [HK.out]; omega)
      have hcj : wr.cell? ⟨b, off + j, none⟩ = some (.int .u32 ((dg (grp x) j : Nat) : Int)) := (HA.out.below.cell hb1).trans (HC.out j (by rw [HK.out]; omega))
      have hll : (Lib.decDigits (x / 1000000000 ^ (j + 1))).length ≤ 1000000 := by
        have := dec_len_mono (x := x) (y := x / 1000000000 ^ (j + 1)) (Nat.div_le_self _ _)
        omega
      have e2 : ((j + 1 : Nat) : Int) - 1 = (j : Int) := by omega
      have OWN := Lib.hid HA.out.own
      have HB := Lib.hid HA.out.below
      have hsz := HA.out.below.size
      clear HA
      obtain ⟨u, hu⟩ : ∃ u, u = dg (grp x) j := ⟨_, rfl⟩
      rw [← hu] at hd hcj HTX
      clear hu
      go_wp2_with fail
      refine (appendGroup_any w1.heap.size u _ _ _ hd hll hsz OWN.out).mono ?_
      rintro e w3 ⟨v3, rfl, ho3, hb3⟩
      have HST2 : Hid (PrAt w1 w3 w1.heap.size x j v3) := ⟨by rw [HTX.out]; exact ho3, HB.out.trans hb3⟩
      clear ho3 hb3 OWN HB HTX hcj
      go_wp2
      go_roundw
      case rel => exact ⟨j, by omega, by go_num, HST2⟩
      case measure => simp [intOf]
end Go.Proofs.YtdpbceipiappjaaGreatDoor
