/-
  Plain numbers: a quotient bit by bit.
-/
import Derived.Test.YtojgpoochclnfaaRShift
namespace Go.Proofs.Ytojgpoochclnfaa

theorem val_cons_drop' (L : List Nat) (i : Nat) (hi : i < L.length) : val (L.drop i) = dg L i + 4294967296 * val (L.drop (i + 1)) := by
  rw [List.drop_eq_getElem_cons hi, val]
  simp [dg_eq, hi]
theorem bit_of {a : List Nat} {k s t : Nat} (ha : L32 a) (hk : k = 32 * s + t) (ht : t < 32) (hs : s < a.length) : val a / 2 ^ k % 2 = dg a s / 2 ^ t % 2 := by
  have h1 : val a / 2 ^ k = val (a.drop s) / 2 ^ t := by
    rw [val_drop a s ha (Nat.le_of_lt hs), Nat.div_div_eq_div_mul, pow_32, ← hk]
  rw [h1, val_cons_drop' a s hs]
  obtain ⟨u, hu⟩ : ∃ u, 32 - t = u + 1 := ⟨31 - t, by omega⟩
  have h2 := two_split ht
  rw [hu, Nat.pow_succ] at h2
  have h3 : 4294967296 * val (a.drop (s + 1)) = 2 ^ t * (2 * (2 ^ u * val (a.drop (s + 1)))) := by
    rw [← h2]
    generalize 2 ^ t = T
    generalize 2 ^ u = U
    generalize val (a.drop (s + 1)) = V
    grind
  rw [h3, Nat.add_comm, Nat.mul_add_div (pow_pos2 t), Nat.mul_add_mod]

theorem div_bit {x y k : Nat} (hy : 0 < y) :
    let r := 2 * (x / 2 ^ (k + 1) % y) + x / 2 ^ k % 2
    (r < y → x / 2 ^ k / y = 2 * (x / 2 ^ (k + 1) / y) ∧ x / 2 ^ k % y = r) ∧ (y ≤ r → x / 2 ^ k / y = 2 * (x / 2 ^ (k + 1) / y) + 1 ∧ x / 2 ^ k % y = r - y) := by
  intro r
  have h1 : x / 2 ^ k = 2 * (x / 2 ^ (k + 1)) + x / 2 ^ k % 2 := by
    have : x / 2 ^ (k + 1) = x / 2 ^ k / 2 := by rw [Nat.pow_succ, Nat.div_div_eq_div_mul]
    rw [this]
    omega
  obtain ⟨u, hu⟩ : ∃ u, u = x / 2 ^ (k + 1) := ⟨_, rfl⟩
  obtain ⟨b, hb⟩ : ∃ b, b = x / 2 ^ k % 2 := ⟨_, rfl⟩
  have hr : r = 2 * (u % y) + b := by rw [hu, hb]
  rw [← hu, ← hb] at h1
  rw [h1, ← hu]
  have hb2 : b < 2 := by rw [hb]; exact Nat.mod_lt _ (by omega)
  have h2 := Nat.div_add_mod u y
  have h3 := Nat.mod_lt u hy
  have h4 : 2 * u + b = r + y * (2 * (u / y)) := by
    rw [hr]
    generalize u / y = q at *
    generalize u % y = m at *
    rw [← h2]
    grind
  constructor
  · intro hlt
    rw [h4, Nat.add_mul_div_left _ _ hy, Nat.div_eq_of_lt hlt, Nat.add_mul_mod_self_left, Nat.mod_eq_of_lt hlt]
    omega
  · intro hge
    have h5 : r - y < y := by omega
    have h6 : 2 * u + b = (r - y) + y * (2 * (u / y) + 1) := by rw [Nat.mul_add, Nat.mul_one]; omega
    rw [h6, Nat.add_mul_div_left _ _ hy, Nat.div_eq_of_lt h5, Nat.add_mul_mod_self_left, Nat.mod_eq_of_lt h5]
    omega

theorem q_limb {Q : List Nat} {k s t q : Nat} (hQ : L32 Q) (hk : k = 32 * s + t) (ht : t < 32) (hs : s < Q.length) (hv : val Q = 2 ^ (k + 1) * q) : dg Q s % 2 ^ (t + 1) = 0 := by
  have h1 := val_drop Q s hQ (Nat.le_of_lt hs)
  rw [hv, hk, Nat.add_assoc, ← pow_32, Nat.mul_assoc, Nat.mul_div_cancel_left _ (Nat.pow_pos (by omega)), val_cons_drop' Q s hs] at h1
  obtain ⟨u, hu⟩ : ∃ u, 32 = (t + 1) + u := ⟨31 - t, by omega⟩
  have h2 : 4294967296 = 2 ^ (t + 1) * 2 ^ u := by rw [← Nat.pow_add, ← hu]
  have h3 : dg Q s + 2 ^ (t + 1) * (2 ^ u * val (Q.drop (s + 1))) = 2 ^ (t + 1) * q := by
    rw [← Nat.mul_assoc, ← h2]; exact h1
  have h4 := congrArg (· % 2 ^ (t + 1)) h3
  simpa using h4
theorem q_or {Q : List Nat} {k s t q : Nat} (hQ : L32 Q) (hk : k = 32 * s + t) (ht : t < 32) (hs : s < Q.length) (hv : val Q = 2 ^ (k + 1) * q) :
    dg Q s ||| 2 ^ t < 4294967296 ∧ val (Q.set s (dg Q s ||| 2 ^ t)) = 2 ^ k * (2 * q + 1) := by
  have h1 := q_limb hQ hk ht hs hv
  have h2 : 2 ^ t < 2 ^ (t + 1) := Nat.pow_lt_pow_right (by omega) (by omega)
  have h3 : dg Q s ||| 2 ^ t = dg Q s + 2 ^ t := nat_join (t + 1) _ _ h1 h2
  have e : (4294967296 : Nat) = 2 ^ 32 := rfl
  refine ⟨?_, ?_⟩
  · rw [e]; exact Nat.or_lt_two_pow (by rw [← e]; exact hQ s) (Nat.pow_lt_pow_right (by omega) ht)
  · have h4 := val_set Q s (dg Q s ||| 2 ^ t) hs
    rw [h3] at h4 ⊢
    rw [Nat.mul_add, pow_32, ← hk, hv] at h4
    have h5 : 2 ^ (k + 1) * q = 2 ^ k * (2 * q) := by rw [Nat.pow_succ, Nat.mul_assoc]
    rw [h5] at h4
    rw [Nat.mul_add, Nat.mul_one]
    omega
end Go.Proofs.Ytojgpoochclnfaa
