/-
  ExprSettles: the walk of the law.
-/
import Derived.Test.YtcmkgoikmleanaaGreatDoorExYi
import Derived.Test.YtcmkgoikmleanaaGreatDoorExZa
namespace Go.Proofs.YtcmkgoikmleanaaGreatDoor
set_option maxRecDepth 20000
open Go.RowKit

theorem dxt_len {r : Rat} (h : NumOk r) : (dxt r).length ≤ 290 := by
  obtain ⟨F, hE, hF⟩ := dxt_of h
  have sz : Sz r 16 := ⟨Bd.ofL h.1, Bd.ofL h.2.1⟩
  rcases hE with ⟨_, K, hK, hx, hl⟩ | ⟨h0, _⟩
  · rw [← hF, hl]
    unfold ext
    rw [decide_eq_false h.2.2.1]
    obtain ⟨q, hq⟩ := hx.tells
    have e : r.num.natAbs * 10 ^ K / r.den = q := by rw [hq, Nat.mul_div_cancel_left _ r.den_pos]
    rw [e]
    show (fx q K).length ≤ 290
    have hx := ten160 sz.num
    have h2 : q < 10 ^ (160 + K) := by
      have h3 : q ≤ r.num.natAbs * 10 ^ K := by rw [hq]; exact Nat.le_mul_of_pos_left _ r.den_pos
      have h4 : r.num.natAbs * 10 ^ K < 10 ^ 160 * 10 ^ K := Nat.mul_lt_mul_of_pos_right hx (ten_pos K)
      rw [Nat.pow_add]; omega
    have := fx_len (k := K) (j := 160 + K) (by omega) h2
    omega
  · cases h0
theorem pr_len2 : ∀ (t : Ex), t.fine → t.pr.length ≤ 300 * t.nodes := by
  intro t
  induction t with
  | bad => exact fun h => h.elim
  | num r =>
    intro h
    have := dxt_len h
    show (dxt r).length ≤ 300 * 1
    omega
  | nm s =>
    intro h
    have := (isName_iff.1 h).2.1
    show s.data.toList.length ≤ 300 * 1
    rw [data_size]; omega
  | bin k a b iha ihb =>
    intro h
    have h1 := iha h.1
    have h2 := ihb h.2
    have h3 := wrapK_len (if k = 3 ∨ k = 4 then 1 else 2) a.row a.pr
    have h4 := wrapK_len ((if k = 3 ∨ k = 4 then 1 else 2) + 1) b.row b.pr
    have h5 := sgnK_len k
    simp only [Ex.pr, Ex.nodes, List.length_append]
    omega
  | neg a iha =>
    intro h
    have h1 := iha h
    have h3 := wrapK_len 3 a.row a.pr
    simp only [Ex.pr, Ex.nodes, List.length_cons]
    omega
theorem fin_may {S : ByteArray} {t : Ex} (h : fin S = .ok t) : t.may 32 256 ∧ t.wf := by
  have hw := wf_parse S
  unfold fin at h
  cases hp : parse tv S with
  | err a c => rw [hp] at h; cases h
  | ok t' u p n lg =>
    rw [hp] at h hw
    by_cases hm : t'.may 32 256
    · rw [fin1_yes hm] at h
      injection h with h
      rw [← h]; exact ⟨hm, hw.1⟩
    · rw [fin1_no hm] at h; cases h
theorem fin_err {S : ByteArray} {a c : Nat} (h : fin S = .err a c) : c ≠ 0 := by
  have hg := parse_good tv S
  unfold fin at h
  cases hp : parse tv S with
  | err a' c' =>
    rw [hp] at h hg
    injection h with h1 h2
    have := hg.2
    omega
  | ok t' u p n lg =>
    rw [hp] at h
    by_cases hm : t'.may 32 256
    · rw [fin1_yes hm] at h; cases h
    · rw [fin1_no hm] at h
      injection h with h1 h2
      omega
theorem pr_fits {t : Ex} (h : t.may 32 256) : (⟨t.pr.toArray⟩ : ByteArray).size ≤ 100000 := by
  have h1 := pr_len2 t h.1
  have h2 := h.2.2
  show t.pr.toArray.size ≤ 100000
  simp
  omega
end Go.Proofs.YtcmkgoikmleanaaGreatDoor
