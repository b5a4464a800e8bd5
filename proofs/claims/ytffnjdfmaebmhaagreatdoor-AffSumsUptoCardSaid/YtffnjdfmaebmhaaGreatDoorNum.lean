/-
  Plain numbers, no program: what a row of limbs is worth, the row of a number, and the sums that a loop over limbs keeps.
-/
import Derived.WalkKit
namespace Go.Proofs.YtffnjdfmaebmhaaGreatDoor
set_option maxRecDepth 20000

/-- What a row of limbs is worth, the lowest first. -/
def val : List Nat → Nat
  | [] => 0
  | x :: l => x + 4294967296 * val l

/-- The limb at a place, 0 behind the last one. -/
def dg (l : List Nat) (i : Nat) : Nat := l.getD i 0
theorem dg_eq (l : List Nat) (i : Nat) : dg l i = l[i]?.getD 0 := by unfold dg; exact List.getD_eq_getElem?_getD
@[simp] theorem dg_nil (i : Nat) : dg [] i = 0 := by simp [dg_eq]
@[simp] theorem dg_zero (x : Nat) (l : List Nat) : dg (x :: l) 0 = x := by simp [dg_eq]
@[simp] theorem dg_succ (x : Nat) (l : List Nat) (i : Nat) : dg (x :: l) (i + 1) = dg l i := by simp [dg_eq]
theorem dg_out {l : List Nat} {i : Nat} (h : l.length ≤ i) : dg l i = 0 := by rw [dg_eq, List.getElem?_eq_none h]; rfl

/-- Each is a limb. -/
def L32 (l : List Nat) : Prop := ∀ i, dg l i < 4294967296

/-- The limbs of a number, trimmed. -/
def lim (n : Nat) : List Nat := if h : n = 0 then [] else (n % 4294967296) :: lim (n / 4294967296)
  decreasing_by omega

theorem lim_zero : lim 0 = [] := by rw [lim]; simp
theorem lim_pos {n : Nat} (h : n ≠ 0) : lim n = (n % 4294967296) :: lim (n / 4294967296) := by rw [lim]; simp [h]
theorem val_lim : ∀ n : Nat, val (lim n) = n := by
  intro n
  induction n using Nat.strongRecOn with
  | _ n ih =>
    by_cases h : n = 0
    · subst h; simp [lim_zero, val]
    · rw [lim_pos h, val, ih (n / 4294967296) (by omega)]; omega
theorem L32.nil : L32 [] := fun i => by simp
theorem L32.cons {x : Nat} {l : List Nat} (h : x < 4294967296) (hl : L32 l) : L32 (x :: l) := by
  intro i
  cases i with
  | zero => simpa using h
  | succ i => simpa using hl i
theorem L32.head {x : Nat} {l : List Nat} (h : L32 (x :: l)) : x < 4294967296 := by simpa using h 0
theorem L32.tail {x : Nat} {l : List Nat} (h : L32 (x :: l)) : L32 l := fun i => by simpa using h (i + 1)
theorem L32_lim : ∀ n : Nat, L32 (lim n) := by
  intro n
  induction n using Nat.strongRecOn with
  | _ n ih =>
    by_cases h : n = 0
    · subst h; rw [lim_zero]; exact L32.nil
    · rw [lim_pos h]; exact L32.cons (by omega) (ih _ (by omega))
theorem L32.take {l : List Nat} (h : L32 l) (k : Nat) : L32 (l.take k) := by
  intro i
  rw [dg_eq, List.getElem?_take]
  split
  · rw [← dg_eq]; exact h i
  · simp
theorem L32.drop {l : List Nat} (h : L32 l) (k : Nat) : L32 (l.drop k) := by
  intro i
  rw [dg_eq, List.getElem?_drop, ← dg_eq]; exact h _

/-- A row is trimmed. -/
def Tr (l : List Nat) : Prop := l.length = 0 ∨ dg l (l.length - 1) ≠ 0
theorem Tr.tail {x y : Nat} {l : List Nat} (h : Tr (x :: y :: l)) : Tr (y :: l) := by
  unfold Tr at *
  simp at h ⊢
  simpa using h
theorem val_pos : ∀ {l : List Nat}, l ≠ [] → Tr l → val l ≠ 0 := by
  intro l
  induction l with
  | nil => intro h; exact absurd rfl h
  | cons x l ih =>
    intro _ ht
    cases l with
    | nil => unfold Tr at ht; simp at ht; simp [val]; exact ht
    | cons y l => have := ih (by simp) ht.tail; rw [val]; omega
theorem lim_val : ∀ {l : List Nat}, L32 l → Tr l → lim (val l) = l := by
  intro l
  induction l with
  | nil => intro _ _; simp [val, lim_zero]
  | cons x l ih =>
    intro hl ht
    have hp := val_pos (by simp) ht
    have hx := hl.head
    rw [lim_pos hp, val]
    have e1 : (x + 4294967296 * val l) % 4294967296 = x := by omega
    have e2 : (x + 4294967296 * val l) / 4294967296 = val l := by omega
    rw [e1, e2]
    cases l with
    | nil => simp [val, lim_zero]
    | cons y l => rw [ih hl.tail ht.tail]
theorem lim_tr (n : Nat) : Tr (lim n) := by
  induction n using Nat.strongRecOn with
  | _ n ih =>
    by_cases h : n = 0
    · subst h; rw [lim_zero]; exact .inl rfl
    · rw [lim_pos h]
      have := ih (n / 4294967296) (by omega)
      by_cases h2 : n / 4294967296 = 0
      · rw [h2, lim_zero]; right; simp; omega
      · rw [lim_pos h2] at this ⊢
        unfold Tr at this ⊢
        right
        simpa using this
theorem lim_inj {n m : Nat} (h : lim n = lim m) : n = m := by rw [← val_lim n, ← val_lim m, h]

/-- The digits' sum: the first k limbs that f gives. -/
def S (f : Nat → Nat) : Nat → Nat
  | 0 => 0
  | k + 1 => S f k + 4294967296 ^ k * f k
theorem S_shift (f : Nat → Nat) : ∀ k, S f (k + 1) = f 0 + 4294967296 * S (fun i => f (i + 1)) k := by
  intro k
  induction k with
  | zero => simp [S]
  | succ k ih =>
    rw [S, ih, S, Nat.pow_succ, Nat.mul_add]
    rw [Nat.mul_comm (4294967296 ^ k) 4294967296, Nat.mul_assoc, Nat.add_assoc]
theorem S_congr {f g : Nat → Nat} {k : Nat} (h : ∀ i, i < k → f i = g i) : S f k = S g k := by
  induction k with
  | zero => rfl
  | succ k ih => rw [S, S, ih (fun i hi => h i (by omega)), h k (by omega)]
theorem S_val (l : List Nat) : S (fun i => dg l i) l.length = val l := by
  induction l with
  | nil => rfl
  | cons x l ih =>
    rw [List.length_cons, S_shift, val]
    simp only [dg_zero, dg_succ]
    rw [ih]
theorem S_more (l : List Nat) (k : Nat) (h : l.length ≤ k) : S (fun i => dg l i) k = val l := by
  obtain ⟨d, rfl⟩ : ∃ d, k = l.length + d := ⟨k - l.length, by omega⟩
  induction d with
  | zero => exact S_val l
  | succ d ih =>
    rw [← Nat.add_assoc, S, ih (by omega)]
    have : dg l (l.length + d) = 0 := by simp [dg_eq]
    rw [this]; simp
theorem S_take (l : List Nat) (k : Nat) : S (fun i => dg l i) k = val (l.take k) := by
  by_cases h : k ≤ l.length
  · have : (l.take k).length = k := by simp [h]
    rw [← S_val (l.take k), this]
    apply S_congr
    intro i hi
    simp [dg_eq, hi]
  · rw [List.take_of_length_le (by omega), S_more _ _ (by omega)]
theorem S_lt {f : Nat → Nat} {k : Nat} (h : ∀ i, i < k → f i < 4294967296) : S f k < 4294967296 ^ k := by
  induction k with
  | zero => simp [S]
  | succ k ih =>
    have h1 := ih (fun i hi => h i (by omega))
    have h2 := h k (by omega)
    rw [S, Nat.pow_succ]
    have h3 : 4294967296 ^ k * f k ≤ 4294967296 ^ k * 4294967295 := Nat.mul_le_mul_left _ (by omega)
    omega
theorem val_lt {l : List Nat} (h : L32 l) : val l < 4294967296 ^ l.length := by
  rw [← S_val]; exact S_lt fun i _ => h i
theorem val_take_drop (l : List Nat) (k : Nat) (h : k ≤ l.length) : val l = val (l.take k) + 4294967296 ^ k * val (l.drop k) := by
  induction k generalizing l with
  | zero => simp [val]
  | succ k ih =>
    cases l with
    | nil => simp at h
    | cons x l =>
      simp only [List.take_succ_cons, List.drop_succ_cons, val]
      rw [ih l (by simpa using h), Nat.pow_succ, Nat.mul_add, Nat.mul_comm (4294967296 ^ k) 4294967296, Nat.mul_assoc]
      omega
theorem val_append (l m : List Nat) : val (l ++ m) = val l + 4294967296 ^ l.length * val m := by
  rw [val_take_drop (l ++ m) l.length (by simp)]; simp
/-- A step of head: the last limb is 0. -/
theorem val_take_pred (l : List Nat) (k : Nat) (h0 : 0 < k) (hz : dg l (k - 1) = 0) : val (l.take (k - 1)) = val (l.take k) := by
  rw [← S_take, ← S_take]
  obtain ⟨j, rfl⟩ : ∃ j, k = j + 1 := ⟨k - 1, by omega⟩
  simp only [Nat.add_sub_cancel] at hz ⊢
  rw [S, hz]; simp
theorem lim_of_take {l : List Nat} (hl : L32 l) {k : Nat} (hk : k ≤ l.length) (hv : val (l.take k) = val l) (ht : k = 0 ∨ dg l (k - 1) ≠ 0) : lim (val l) = l.take k := by
  rw [← hv]
  refine lim_val (hl.take k) ?_
  unfold Tr
  have e : (l.take k).length = k := by simp [hk]
  rw [e]
  rcases ht with rfl | ht
  · exact .inl rfl
  · by_cases h0 : k = 0
    · exact .inl h0
    · right
      simpa [dg_eq, List.getElem?_take, show k - 1 < k by omega] using ht
theorem lim_len_le {l : List Nat} (hl : L32 l) : (lim (val l)).length ≤ l.length := by
  suffices h : ∀ k, k ≤ l.length → val (l.take k) = val l → (lim (val l)).length ≤ l.length from h l.length (Nat.le_refl _) (by simp)
  intro k
  induction k with
  | zero => intro hk hv; rw [lim_of_take hl hk hv (.inl rfl)]; simp
  | succ k ih =>
    intro hk hv
    by_cases hz : dg l k = 0
    · exact ih (by omega) ((val_take_pred l (k + 1) (by omega) (by simpa using hz)).trans hv)
    · rw [lim_of_take hl hk hv (.inr (by simpa using hz))]; simp; omega
theorem lim_take {l : List Nat} (hl : L32 l) : lim (val l) = l.take (lim (val l)).length := by
  suffices h : ∀ k, k ≤ l.length → val (l.take k) = val l → lim (val l) = l.take (lim (val l)).length from h l.length (Nat.le_refl _) (by simp)
  intro k
  induction k with
  | zero => intro hk hv; have := lim_of_take hl hk hv (.inl rfl); simp [this]
  | succ k ih =>
    intro hk hv
    by_cases hz : dg l k = 0
    · exact ih (by omega) ((val_take_pred l (k + 1) (by omega) (by simpa using hz)).trans hv)
    · have h := lim_of_take hl hk hv (.inr (by simpa using hz))
      have e : (lim (val l)).length = k + 1 := by rw [h]; simp; omega
      rw [e]; exact h
theorem lim_len_lt {n k : Nat} (h : n < 4294967296 ^ k) : (lim n).length ≤ k := by
  induction k generalizing n with
  | zero => have : n = 0 := by simpa using h
            subst this; simp [lim_zero]
  | succ k ih =>
    by_cases h0 : n = 0
    · subst h0; simp [lim_zero]
    · rw [lim_pos h0]
      have := ih (n := n / 4294967296) (by rw [Nat.pow_succ] at h; exact Nat.div_lt_of_lt_mul (by rw [Nat.mul_comm]; exact h))
      simpa using this
theorem lim_len_ge {n k : Nat} (h : 4294967296 ^ k ≤ n) : k < (lim n).length := by
  rcases Nat.lt_or_ge k (lim n).length with h1 | h1
  · exact h1
  · exfalso
    have h2 := val_lt (L32_lim n)
    rw [val_lim] at h2
    have h3 : 4294967296 ^ (lim n).length ≤ 4294967296 ^ k := Nat.pow_le_pow_right (by omega) h1
    omega

/-- A step of a sum of two rows. -/
theorem add_step {P S1 Sa Sb c x y d c' : Nat} (h : S1 + P * c = Sa + Sb) (hd : d + 4294967296 * c' = x + y + c) :
    (S1 + P * d) + (P * 4294967296) * c' = (Sa + P * x) + (Sb + P * y) := by
  have := congrArg (P * ·) hd
  simp only [Nat.mul_add] at this
  rw [← Nat.mul_assoc] at this
  omega
theorem sub_step {P S1 Sa Sb c x y d c' : Nat} (h : S1 + Sb = Sa + P * c) (hd : d + y + c = x + 4294967296 * c') :
    (S1 + P * d) + (Sb + P * y) = (Sa + P * x) + (P * 4294967296) * c' := by
  have := congrArg (P * ·) hd
  simp only [Nat.mul_add] at this
  rw [← Nat.mul_assoc] at this
  omega
end Go.Proofs.YtffnjdfmaebmhaaGreatDoor
