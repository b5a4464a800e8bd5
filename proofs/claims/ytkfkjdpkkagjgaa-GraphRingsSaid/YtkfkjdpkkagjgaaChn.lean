/-
  Pairs in a row, no program.
-/
import Derived.Test.YtkfkjdpkkagjgaaGph
namespace Go.Proofs.Ytkfkjdpkkagjgaa
set_option maxRecDepth 20000

def chainE (k : Nat) : List (Nat × Nat) := (List.range k).map fun j => (j, j + 1)
theorem chainE_succ (k : Nat) : chainE (k + 1) = chainE k ++ [(k, k + 1)] := by unfold chainE; rw [List.range_succ, List.map_append]; rfl
theorem chainE_get {k j : Nat} (h : j < k) : (chainE k)[j]? = some (j, j + 1) := by unfold chainE; rw [List.getElem?_map, List.getElem?_range h]; rfl
theorem chainE_len (k : Nat) : (chainE k).length = k := by unfold chainE; rw [List.length_map, List.length_range]
/-- Pairs as constraints' variables. -/
def prs (es : List (Nat × Nat)) : List (List Nat) := es.map fun e => [e.1, e.2]
theorem prs_len (es : List (Nat × Nat)) : (prs es).length = es.length := List.length_map ..
theorem prs_joins (es : List (Nat × Nat)) : joinsL (prs es) = es.length := by
  unfold joinsL prs
  rw [List.map_map]
  induction es with
  | nil => rfl
  | cons e es ih => rw [List.map_cons, List.sum_cons, ih, List.length_cons]; show 2 - 1 + _ = _; omega
theorem chain_bnd {N k : Nat} (h : k < N) : bnd N (prs (chainE k)) := by
  intro c hc v hv
  obtain ⟨e, he, rfl⟩ := List.mem_map.1 hc
  obtain ⟨j, hj, rfl⟩ := List.mem_map.1 he
  have := List.mem_range.1 hj
  simp at hv
  omega
theorem chain_root {N k : Nat} (h : k < N) : ∀ v, v ≤ k → rt (runN N (prs (chainE k))) v = 0 := by
  obtain ⟨L, _, hR, e⟩ := runN_rts (chain_bnd h)
  have hs := (e _).1 hR.resp
  have h0 : rt (runN N (prs (chainE k))) 0 = 0 := Nat.le_zero.1 (hR.le 0 (by omega))
  intro v
  induction v with
  | zero => exact fun _ => h0
  | succ v ih =>
    intro hv
    rw [← ih (by omega)]
    refine (hs [v, v + 1] ?_ v (by simp) (v + 1) (by simp)).symm
    exact List.mem_map.2 ⟨(v, v + 1), List.mem_of_getElem? (chainE_get (by omega)), rfl⟩
theorem cnt_low {r : List Nat} {k : Nat} (h : ∀ v, v ≤ k → rt r v = 0) : ∀ n, n ≤ k + 1 → n - 1 ≤ cnt r n
  | 0, _ => Nat.zero_le _
  | n + 1, hn => by
    have ih := cnt_low h n (by omega)
    rw [cnt, h n (by omega)]
    split <;> omega
theorem cnt_mono (r : List Nat) {n m : Nat} (h : n ≤ m) : cnt r n ≤ cnt r m := by
  induction m with
  | zero => rw [show n = 0 by omega]; exact Nat.le_refl _
  | succ m ih =>
    by_cases e : n = m + 1
    · rw [e]; exact Nat.le_refl _
    · exact Nat.le_trans (ih (by omega)) (by rw [cnt]; omega)
theorem chain_forest {N k : Nat} (h : k < N) : failN N (prs (chainE k)) = 0 := by
  have h1 := totalN (chain_bnd h)
  rw [prs_joins, chainE_len] at h1
  have h2 := cnt_low (chain_root h) (k + 1) (Nat.le_refl _)
  have h3 := cnt_mono (runN N (prs (chainE k))) (show k + 1 ≤ N by omega)
  omega
/-- The ring: the pairs, and the ends' pair last. -/
theorem ring_first {N : Nat} (h : 2 < N) : IsFst N (prs (chainE (N - 1) ++ [(0, N - 1)])) ((N : Int) - 1) := by
  have hl : (prs (chainE (N - 1) ++ [(0, N - 1)])).length = N := by rw [prs_len, List.length_append, chainE_len]; show N - 1 + 1 = N; omega
  have e : prs (chainE (N - 1) ++ [(0, N - 1)]) = prs (chainE (N - 1)) ++ [[0, N - 1]] := by unfold prs; rw [List.map_append]; rfl
  have hk : N - 1 < N := by omega
  have hpl : (prs (chainE (N - 1))).length = N - 1 := by rw [prs_len, chainE_len]
  refine .inr ⟨N - 1, by omega, by rw [hl]; exact hk, ?_, fun j hj => ?_⟩
  · unfold ringAt
    rw [e, List.take_append_of_le_length (by omega), List.take_of_length_le (by omega)]
    have e2 : (prs (chainE (N - 1)) ++ [[0, N - 1]]).getD (N - 1) [] = [0, N - 1] := by
      rw [List.getD_eq_getElem?_getD, List.getElem?_append_right (by omega), hpl, Nat.sub_self]; rfl
    rw [e2]
    show (0 + if rt (runN N (prs (chainE (N - 1)))) 0 = rt (runN N (prs (chainE (N - 1)))) (N - 1) then 1 else 0) ≠ 0
    rw [chain_root hk 0 (by omega), chain_root hk (N - 1) (Nat.le_refl _), if_pos rfl]
    omega
  · rw [e, ring_app (by omega)]
    have h1 := (fail_sum (N := N) (prs (chainE (N - 1))) (N - 1) (by omega)).1 (by rw [List.take_of_length_le (by omega)]; exact chain_forest hk)
    exact h1 j hj
theorem ring_bnd {N : Nat} (h : 2 < N) : ∀ e ∈ chainE (N - 1) ++ [(0, N - 1)], e.1 < e.2 ∧ e.2 < N := by
  intro e he
  rcases List.mem_append.1 he with he | he
  · obtain ⟨j, hj, rfl⟩ := List.mem_map.1 he
    have := List.mem_range.1 hj
    show j < j + 1 ∧ j + 1 < N
    omega
  · rw [List.mem_singleton.1 he]
    show 0 < N - 1 ∧ N - 1 < N
    omega
theorem chain_lt {N k : Nat} (h : k < N) : ∀ e ∈ chainE k, e.1 < e.2 ∧ e.2 < N := by
  intro e he
  obtain ⟨j, hj, rfl⟩ := List.mem_map.1 he
  have := List.mem_range.1 hj
  show j < j + 1 ∧ j + 1 < N
  omega
end Go.Proofs.Ytkfkjdpkkagjgaa
