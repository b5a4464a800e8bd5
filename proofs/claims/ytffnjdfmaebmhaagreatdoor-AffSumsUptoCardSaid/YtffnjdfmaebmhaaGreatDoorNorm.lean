/-
  Plain numbers: a divisor shifted till its highest bit is set; what the loop of a long division keeps.
-/
import Derived.Test.YtffnjdfmaebmhaaGreatDoorTake
import Derived.Test.YtffnjdfmaebmhaaGreatDoorBits
namespace Go.Proofs.YtffnjdfmaebmhaaGreatDoor
set_option maxRecDepth 20000

theorem bitLen_ok : ∀ y : Nat, 0 < y → y < 4294967296 → 2 ^ (Lib.bitLen y - 1) ≤ y ∧ y < 2 ^ Lib.bitLen y ∧ 1 ≤ Lib.bitLen y := by
  intro y
  induction y using Nat.strongRecOn with
  | _ y ih =>
    intro h0 hy
    have h := bitLen_half h0 hy
    by_cases h1 : y / 2 = 0
    · have : y = 1 := by omega
      subst this
      have e : Lib.bitLen 1 = 1 := rfl
      rw [e]; omega
    · obtain ⟨a, b, c⟩ := ih (y / 2) (by omega) (by omega) (by omega)
      rw [h]
      have e1 : 1 + Lib.bitLen (y / 2) - 1 = (Lib.bitLen (y / 2) - 1) + 1 := by omega
      rw [e1, Nat.pow_succ, Nat.add_comm 1, Nat.pow_succ]
      omega

/-- A divisor of m limbs, shifted by the noughts ahead of its highest limb. -/
theorem norm_ok {b : List Nat} {m up : Nat} (hm : 1 ≤ m) (hb : L32 b) (hlen : b.length = m) (ht : dg b (m - 1) ≠ 0) (hup : up = 32 - Lib.bitLen (dg b (m - 1))) :
    up < 32 ∧ (lim (val b * 2 ^ up)).length = m ∧ 2147483648 ≤ dg (lim (val b * 2 ^ up)) (m - 1) := by
  obtain ⟨k, rfl⟩ : ∃ k, m = k + 1 := ⟨m - 1, by omega⟩
  simp only [Nat.add_sub_cancel] at *
  have hy := hb k
  obtain ⟨h1, h2, h3⟩ := bitLen_ok (dg b k) (by omega) hy
  have h4 := bitLen_le32 hy
  have hv : val b = S (fun i => dg b i) k + 4294967296 ^ k * dg b k := by
    rw [← S_val b, hlen]; rfl
  have hlow := S_lt (f := fun i => dg b i) (k := k) fun i _ => hb i
  have e1 : 2 ^ (Lib.bitLen (dg b k) - 1) * 2 ^ up = 2147483648 := by
    rw [← Nat.pow_add, show Lib.bitLen (dg b k) - 1 + up = 31 by omega]
  have e2 : 2 ^ Lib.bitLen (dg b k) * 2 ^ up = 4294967296 := by
    rw [← Nat.pow_add, show Lib.bitLen (dg b k) + up = 32 by omega]
  obtain ⟨R, hR⟩ : ∃ R, R = 4294967296 ^ k := ⟨_, rfl⟩
  obtain ⟨y, hye⟩ : ∃ y, y = dg b k := ⟨_, rfl⟩
  obtain ⟨U, hU⟩ : ∃ U, U = 2 ^ up := ⟨_, rfl⟩
  obtain ⟨s, hs⟩ : ∃ s, s = S (fun i => dg b i) k := ⟨_, rfl⟩
  rw [← hR, ← hye, ← hs] at hv
  rw [← hR, ← hs] at hlow
  rw [← hye] at h1 h2 e1 e2
  rw [← hU] at e1 e2 ⊢
  have hUp : 0 < U := by rw [hU]; exact pow_pos2 up
  have f1 : 2147483648 ≤ y * U := by
    have := Nat.mul_le_mul_right U h1
    rw [e1] at this; exact this
  have f2 : (y + 1) * U ≤ 4294967296 := by
    have := Nat.mul_le_mul_right U h2
    rw [e2] at this; exact this
  have g1 : R * 2147483648 ≤ val b * U := by
    have := Nat.mul_le_mul_left R f1
    rw [hv, Nat.add_mul, Nat.mul_assoc]
    omega
  have g2 : val b * U < R * 4294967296 := by
    have a1 : val b < R * (y + 1) := by rw [hv, Nat.mul_add]; omega
    have a2 : val b * U < R * (y + 1) * U := Nat.mul_lt_mul_of_pos_right a1 hUp
    have a3 := Nat.mul_le_mul_left R f2
    rw [← Nat.mul_assoc] at a3
    omega
  have hk1 : 4294967296 ^ (k + 1) = R * 4294967296 := by rw [Nat.pow_succ, hR]
  have hle : (lim (val b * U)).length ≤ k + 1 := lim_len_lt (by rw [hk1]; exact g2)
  have hge : k < (lim (val b * U)).length := by
    refine lim_len_ge ?_
    rw [← hR]
    have : R * 1 ≤ R * 2147483648 := Nat.mul_le_mul_left R (by omega)
    omega
  have hl : (lim (val b * U)).length = k + 1 := by omega
  refine ⟨by omega, hl, ?_⟩
  have hv2 : val b * U = S (fun i => dg (lim (val b * U)) i) k + R * dg (lim (val b * U)) k := by
    have := S_val (lim (val b * U))
    rw [hl, val_lim] at this
    rw [S] at this
    rw [hR]
    exact this.symm
  have hlow2 := S_lt (f := fun i => dg (lim (val b * U)) i) (k := k) fun i _ => L32_lim _ i
  rw [← hR] at hlow2
  rcases Nat.lt_or_ge (dg (lim (val b * U)) k) 2147483648 with h | h
  · exfalso
    have a1 := Nat.mul_le_mul_left R h
    rw [Nat.mul_succ] at a1
    omega
  · exact h

theorem val_cons_drop (L : List Nat) (i : Nat) (hi : i < L.length) : val (L.drop i) = dg L i + 4294967296 * val (L.drop (i + 1)) := by
  rw [List.drop_eq_getElem_cons hi, val]
  simp [dg_eq, hi]
/-- What stands from i on, if it is below so much, ends within m + 1 limbs. -/
theorem seg_val {L : List Nat} {i m V : Nat} (hV : V ≤ 4294967296 ^ (m + 1)) (hlt : val (L.drop i) < V) (hlen : i + m + 1 ≤ L.length) :
    val ((L.drop i).take (m + 1)) = val (L.drop i) ∧ val (L.drop (i + (m + 1))) = 0 := by
  have h := val_take_drop (L.drop i) (m + 1) (by simp; omega)
  rw [List.drop_drop] at h
  rcases Nat.eq_zero_or_pos (val (L.drop (i + (m + 1)))) with h0 | h0
  · rw [h0] at h; exact ⟨by omega, h0⟩
  · exfalso
    have := Nat.mul_le_mul_left (4294967296 ^ (m + 1)) h0
    rw [Nat.mul_one] at this
    omega
end Go.Proofs.YtffnjdfmaebmhaaGreatDoor
