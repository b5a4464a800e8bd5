/-
  big: are some rationals more limbs than is looked at?
-/
import Derived.Test.YtgfajmnmeggaeaaRatH
namespace Go.Proofs.Ytgfajmnmeggaeaa
set_option maxRecDepth 20000
open Go.RowKit

/-- How many limbs the first i rationals hold. -/
def tot (f : Nat → Rv) : Nat → Nat
  | 0 => 0
  | i + 1 => tot f i + (f i).n + (f i).m
theorem tot_succ (f : Nat → Rv) (i : Nat) : tot f (i + 1) = tot f i + (f i).n + (f i).m := rfl
theorem tot_mono (f : Nat → Rv) {i j : Nat} (h : i ≤ j) : tot f i ≤ tot f j := by
  induction j with
  | zero => have : i = 0 := by omega
            subst this; exact Nat.le_refl _
  | succ j ih =>
    by_cases e : i = j + 1
    · subst e; exact Nat.le_refl _
    · have := ih (by omega)
      rw [tot_succ]; omega

set_option maxHeartbeats 1600000 in
theorem big_any (f : Nat → Rv) (g k : Nat) (w : World) (hk : k ≤ 10) (hlen : ∀ i, i < k → (f i).n ≤ 1000000000000000 ∧ (f i).m ≤ 1000000000000000)
    (hc : ∀ i, i < k → w.cell? ⟨g, i * 3 + 1, none⟩ = some (.slice (f i).A (f i).n (f i).c) ∧ w.cell? ⟨g, i * 3 + 2, none⟩ = some (.slice (f i).B (f i).m (f i).d)) :
    Calls Try.prog 5 #[.slice (some ⟨g, 0, none⟩) k k] w fun e w' => e = .returned (.bool (decide (16 < tot f k))) ∧ Below w.heap.size w w' := by
  have HC := Lib.hid hc
  have HL := Lib.hid hlen
  clear hc hlen
  go_enter Try.func5, Try.ntmps5
  go_wp2
  go_loopw [3, 4] (fun nv iv wr => ∃ i q : Nat, i ≤ k ∧ nv = .int .i64 (tot f i) ∧ iv = .int .i64 i ∧ wr = w.drewN q ∧ tot f i ≤ 16) (fun _ iv _ => k - (intOf iv).toNat)
  case atStart => exact ⟨0, 0, Nat.zero_le _, rfl, rfl, rfl, by simp [tot]⟩
  case round =>
    obtain ⟨i, q, hi, rfl, rfl, rfl, ht⟩ := hrel
    by_cases h0 : i < k
    · obtain ⟨hc1, hc2⟩ := HC.out i h0
      obtain ⟨hl1, hl2⟩ := HL.out i h0
      have ht' := tot_succ f i
      have hmon := Lib.hid (tot_mono f (show i + 1 ≤ k from h0))
      generalize (f i).n = n1 at *
      generalize (f i).m = m1 at *
      generalize (f i).c = c1 at *
      generalize (f i).d = d1 at *
      have hT : Hid (tot f (i + 1) = tot f i + n1 + m1) := ht'
      clear ht'
      generalize htt : tot f i = t at *
      have HT := Lib.hid htt
      clear htt
      go_wp2
      go_quiet (fail)
      go_wp2
      · go_ret
        refine ⟨?_, below_drewN' _ _ _⟩
        have h1 := hmon.out
        have h2 := hT.out
        rw [decide_eq_true (show 16 < tot f k by omega)]; rfl
      · have h2 := hT.out
        refine ⟨⟨i + 1, _, by omega, ?_, by simp, rfl, by omega⟩, by simp [intOf]; omega⟩
        rw [h2]; simp
    · have e : i = k := by omega
      have HE := Lib.hid e
      have HT := Lib.hid ht
      clear e ht
      go_wp2
      go_ret
      refine ⟨?_, below_drewN' _ _ _⟩
      have h1 := HT.out
      rw [HE.out] at h1
      rw [decide_eq_false (show ¬ 16 < tot f k by omega)]; rfl
end Go.Proofs.Ytgfajmnmeggaeaa
