/-
  Plain numbers: a digit of a quotient, guessed by the highest limbs.
-/
import Derived.Test.YtffnjdfmaebmhaaGreatDoorMul
namespace Go.Proofs.YtffnjdfmaebmhaaGreatDoor
set_option maxRecDepth 20000

/-- v is first, second and lower limbs; p is three limbs and lower ones: what a digit d that fits the high ones tells of all. -/
theorem digit_le {R D2 P3 v' p' d v p : Nat} (hv : v = D2 * R + v') (hp : p = P3 * R + p') (hv' : v' < R) (hd : d * D2 ≤ P3) (hdD : d ≤ D2) : d * v ≤ p + v := by
  have h1 : d * D2 * R ≤ P3 * R := Nat.mul_le_mul_right _ hd
  have h2 : d * v' ≤ D2 * R := Nat.mul_le_mul hdD (Nat.le_of_lt hv')
  have h3 : d * v = d * D2 * R + d * v' := by rw [hv, Nat.mul_add, Nat.mul_assoc]
  omega
theorem digit_ge {R D2 P3 v' p' d v p : Nat} (hv : v = D2 * R + v') (hp : p = P3 * R + p') (hp' : p' < R) (hd : P3 < (d + 1) * D2) : p < (d + 1) * v := by
  have h1 : (P3 + 1) * R ≤ (d + 1) * D2 * R := Nat.mul_le_mul_right _ hd
  have h3 : (d + 1) * v = (d + 1) * D2 * R + (d + 1) * v' := by rw [hv, Nat.mul_add, Nat.mul_assoc]
  rw [Nat.add_mul, Nat.one_mul] at h1
  omega

/-- The test of the loop, said of the three limbs and the two. -/
theorem test_iff {first second top low digit left : Nat} (ht : top = digit * first + left) : (left * 4294967296 + low < digit * second) ↔ top * 4294967296 + low < digit * (first * 4294967296 + second) := by
  rw [ht, Nat.add_mul, Nat.mul_add, Nat.mul_assoc]
  omega

theorem val_high2 {v : List Nat} {m : Nat} (hm : 2 ≤ m) (hv : v.length = m) : ∃ v', val v = (dg v (m - 1) * 4294967296 + dg v (m - 2)) * 4294967296 ^ (m - 2) + v' ∧ (L32 v → v' < 4294967296 ^ (m - 2)) := by
  obtain ⟨k, rfl⟩ : ∃ k, m = k + 2 := ⟨m - 2, by omega⟩
  refine ⟨S (fun i => dg v i) k, ?_, fun h => S_lt fun i _ => h i⟩
  have h : val v = S (fun i => dg v i) (k + 2) := by rw [← hv]; exact (S_val v).symm
  rw [h, S, S, Nat.pow_succ]
  have e1 : k + 2 - 1 = k + 1 := by omega
  have e2 : k + 2 - 2 = k := by omega
  rw [e1, e2, Nat.add_mul]
  have e3 : dg v (k + 1) * 4294967296 * 4294967296 ^ k = 4294967296 ^ k * 4294967296 * dg v (k + 1) := by
    rw [Nat.mul_comm (dg v (k + 1)), Nat.mul_right_comm, Nat.mul_comm 4294967296]
  rw [e3, Nat.mul_comm (dg v k)]
  omega
theorem val_high3 {p : List Nat} {m : Nat} (hm : 2 ≤ m) (hp : p.length = m + 1) : ∃ p', val p = ((dg p m * 4294967296 + dg p (m - 1)) * 4294967296 + dg p (m - 2)) * 4294967296 ^ (m - 2) + p' ∧ (L32 p → p' < 4294967296 ^ (m - 2)) := by
  obtain ⟨k, rfl⟩ : ∃ k, m = k + 2 := ⟨m - 2, by omega⟩
  refine ⟨S (fun i => dg p i) k, ?_, fun h => S_lt fun i _ => h i⟩
  have h : val p = S (fun i => dg p i) (k + 2 + 1) := by rw [← hp]; exact (S_val p).symm
  rw [h, S, S, S]
  simp only [Nat.pow_succ]
  have e1 : k + 2 - 1 = k + 1 := by omega
  have e2 : k + 2 - 2 = k := by omega
  rw [e1, e2, Nat.add_mul, Nat.add_mul, Nat.add_mul]
  generalize 4294967296 ^ k = R
  generalize dg p (k + 2) = x
  generalize dg p (k + 1) = y
  generalize dg p k = z
  have e3 : x * 4294967296 * 4294967296 * R = R * 4294967296 * 4294967296 * x := by grind
  have e4 : y * 4294967296 * R = R * 4294967296 * y := by grind
  rw [e3, e4, Nat.mul_comm z]
  omega

theorem top_num {R T F G Q v' p' v p : Nat} (e1 : v = (F * 4294967296 + G) * R + v') (h1 : v' < R) (h2 : G < 4294967296) (e2 : p = (T * 4294967296 + Q) * R + p') (hlt : p < v * 4294967296) : T < (F + 1) * 4294967296 := by
  rcases Nat.lt_or_ge T ((F + 1) * 4294967296) with h | h
  · exact h
  · exfalso
    obtain ⟨W, hW⟩ : ∃ W, W = (F + 1) * 4294967296 := ⟨_, rfl⟩
    obtain ⟨V, hV⟩ : ∃ V, V = F * 4294967296 + G := ⟨_, rfl⟩
    obtain ⟨X, hX⟩ : ∃ X, X = T * 4294967296 + Q := ⟨_, rfl⟩
    obtain ⟨Z, hZ⟩ : ∃ Z, Z = W * 4294967296 := ⟨_, rfl⟩
    rw [← hV] at e1
    rw [← hX] at e2
    have hU : V + 1 ≤ W := by omega
    have hT : Z ≤ X := by omega
    have h3 := Nat.mul_le_mul_right R hT
    have h4 := Nat.mul_le_mul_right R hU
    rw [Nat.add_one_mul] at h4
    have h7 : Z * R = W * R * 4294967296 := by rw [hZ]; exact Nat.mul_right_comm _ _ _
    omega

/-- The top two limbs of a piece, by the divisor's highest. -/
theorem top_lt {v p : List Nat} {m : Nat} (hm : 2 ≤ m) (hv : v.length = m) (hp : p.length = m + 1) (lv : L32 v) (hlt : val p < val v * 4294967296) : (dg p m * 4294967296 + dg p (m - 1)) < (dg v (m - 1) + 1) * 4294967296 := by
  obtain ⟨v', e1, h1⟩ := val_high2 hm hv
  obtain ⟨p', e2, _⟩ := val_high3 hm hp
  exact top_num e1 (h1 lv) (lv _) e2 hlt

/-- A digit that the loop ends with. -/
theorem guess_ok {v p : List Nat} {m d : Nat} (hm : 2 ≤ m) (hv : v.length = m) (hp : p.length = m + 1) (lv : L32 v) (hn : 2147483648 ≤ dg v (m - 1))
    (hd : d < 4294967296) (hle : d * (dg v (m - 1) * 4294967296 + dg v (m - 2)) ≤ (dg p m * 4294967296 + dg p (m - 1)) * 4294967296 + dg p (m - 2)) : d * val v ≤ val p + val v := by
  obtain ⟨v', e1, h1⟩ := val_high2 hm hv
  obtain ⟨p', e2, _⟩ := val_high3 hm hp
  exact digit_le e1 e2 (h1 lv) hle (by omega)
/-- A digit that is above what the three limbs allow is not below the quotient's. -/
theorem guess_up {v p : List Nat} {m d : Nat} (hm : 2 ≤ m) (hv : v.length = m) (hp : p.length = m + 1) (lp : L32 p)
    (h : (dg p m * 4294967296 + dg p (m - 1)) * 4294967296 + dg p (m - 2) < (d + 1) * (dg v (m - 1) * 4294967296 + dg v (m - 2))) : val p < (d + 1) * val v := by
  obtain ⟨v', e1, _⟩ := val_high2 hm hv
  obtain ⟨p', e2, h2⟩ := val_high3 hm hp
  exact digit_ge e1 e2 (h2 lp) h

/-- What is taken out, and made up for. -/
theorem take_ok {p v d s : Nat} (hs : s + d * v = p) (hup : p < (d + 1) * v) : s < v := by
  rw [Nat.add_mul, Nat.one_mul] at hup
  omega
theorem back_ok {p v d s s2 c P : Nat} (hs : s + d * v = p + P) (hsP : s < P) (hc : s2 + P * c = s + v) (hs2 : s2 < P) (hle : d * v ≤ p + v) (hc1 : c ≤ 1) : 1 ≤ d ∧ s2 + (d - 1) * v = p ∧ s2 < v := by
  have h1 : 1 ≤ d := by
    rcases Nat.eq_zero_or_pos d with h0 | h0
    · subst h0; omega
    · exact h0
  obtain ⟨e, rfl⟩ : ∃ e, d = e + 1 := ⟨d - 1, by omega⟩
  rw [Nat.add_mul, Nat.one_mul] at hs hle
  have : c = 0 ∨ c = 1 := by omega
  rcases this with rfl | rfl
  · exfalso; omega
  · refine ⟨h1, ?_, ?_⟩
    · simp; omega
    · omega

theorem quot_le {T F : Nat} (h : T < (F + 1) * 4294967296) (hn : 2147483648 ≤ F) : T / F ≤ 4294967297 := by
  have h1 : T / F < 4294967298 := by
    rw [Nat.div_lt_iff_lt_mul (by omega)]
    omega
  omega
theorem start_eq (T F : Nat) : T = T / F * F + T % F := by
  have := Nat.div_add_mod T F
  rw [Nat.mul_comm]; omega
theorem start_up {T F G Q : Nat} (hF : 1 ≤ F) (hQ : Q < 4294967296) : T * 4294967296 + Q < (T / F + 1) * (F * 4294967296 + G) := by
  obtain ⟨W, hW⟩ : ∃ W, W = (T / F + 1) * F := ⟨_, rfl⟩
  obtain ⟨Z, hZ⟩ : ∃ Z, Z = (T / F + 1) * G := ⟨_, rfl⟩
  have h1 : T + 1 ≤ W := by
    have h2 := start_eq T F
    have h3 : T % F < F := Nat.mod_lt _ (by omega)
    rw [hW, Nat.add_mul, Nat.one_mul]
    omega
  have e : (T / F + 1) * (F * 4294967296 + G) = W * 4294967296 + Z := by rw [hW, hZ, Nat.mul_add, Nat.mul_assoc]
  rw [e]
  omega
theorem dec_eq {T F D L : Nat} (ht : T = D * F + L) (hD : 1 ≤ D) : T = (D - 1) * F + (L + F) := by
  obtain ⟨E, rfl⟩ : ∃ E, D = E + 1 := ⟨D - 1, by omega⟩
  rw [Nat.add_mul, Nat.one_mul] at ht
  simp
  omega
theorem brk_ok {T F G Q D L : Nat} (ht : T = D * F + L) (hL : 4294967296 ≤ L) (hT : T < (F + 1) * 4294967296) (hG : G < 4294967296) : D < 4294967296 ∧ D * (F * 4294967296 + G) ≤ T * 4294967296 + Q := by
  have h1 : D < 4294967296 := by
    rcases Nat.lt_or_ge D 4294967296 with h | h
    · exact h
    · exfalso
      have h2 : 4294967296 * F ≤ D * F := Nat.mul_le_mul_right F h
      omega
  refine ⟨h1, ?_⟩
  have h3 : D * G ≤ 4294967295 * 4294967295 := Nat.mul_le_mul (by omega) (by omega)
  rcases Nat.lt_or_ge (T * 4294967296 + Q) (D * (F * 4294967296 + G)) with h | h
  · have := (test_iff ht (low := Q) (second := G)).2 h
    omega
  · exact h
theorem exit_ok {T F G Q D L : Nat} (ht : T = D * F + L) (h : ¬ L * 4294967296 + Q < D * G) : D * (F * 4294967296 + G) ≤ T * 4294967296 + Q := by
  rcases Nat.lt_or_ge (T * 4294967296 + Q) (D * (F * 4294967296 + G)) with h1 | h1
  · exact absurd ((test_iff ht).2 h1) h
  · exact h1
theorem mul_max {D G : Nat} (hD : D < 4294967296) (hG : G < 4294967296) : D * G ≤ 18446744065119617025 :=
  Nat.le_trans (Nat.mul_le_mul (Nat.le_sub_one_of_lt hD) (Nat.le_sub_one_of_lt hG)) (by decide)
end Go.Proofs.YtffnjdfmaebmhaaGreatDoor
