/-
  Variables by themselves; two of them joined; two rows of numbers.
-/
import Derived.Test.YtkfkjdpkkagjgaaIRow
import Derived.Deep.Cut
namespace Go.Proofs.Ytkfkjdpkkagjgaa
set_option maxRecDepth 20000
open Go.RowKit

/-- A number of variables, as it is held. -/
def bndN (n : Int) : Nat := (min (max n 0) 64).toNat
theorem bndN_int (n : Int) : ((bndN n : Nat) : Int) = min (max n 0) 64 := by unfold bndN; omega
theorem bndN_le (n : Int) : bndN n ≤ 64 := by unfold bndN; omega
/-- The first k variables by themselves, the others not yet. -/
def halfR (N k : Nat) : List Nat := List.range k ++ List.replicate (N - k) 0
theorem halfR_step {N k : Nat} (h : k < N) : (halfR N k).set k k = halfR N (k + 1) := by
  unfold halfR
  rw [List.set_append_right _ _ (by simp), List.length_range, Nat.sub_self, List.range_succ, List.append_assoc, show N - k = (N - (k + 1)) + 1 by omega, List.replicate_succ]
  rfl
theorem halfR_all (N : Nat) : halfR N N = List.range N := by unfold halfR; rw [Nat.sub_self]; simp
set_option maxHeartbeats 3200000 in
theorem alone_c (n : Int) (N : Nat) (hN : bndN n = N) (w : World) : Calls Try.prog 33 #[.int .i64 n] w fun e w' => ∃ g, e = .returned (.slice (some ⟨g, 0, none⟩) N N) ∧ OwnN w' w.heap.size (some ⟨g, 0, none⟩) N N (List.range N) ∧ Below w.heap.size w w' := by
  obtain ⟨i0, hi, hz0, hz1, hz2⟩ := info_parts Try.info3
  have h64 := bndN_le n
  rw [hN] at h64
  have HN := Lib.hid hN
  clear hN
  go_enter Try.func33, Try.ntmps33
  go_upto_region 1 with fail
  go_cut [3] (fun v wx => ∃ g, v = .slice (some ⟨g, 0, none⟩) N N ∧ Hid (OwnN wx w.heap.size (some ⟨g, 0, none⟩) N N (List.replicate N 0) ∧ Below w.heap.size w wx))
  case first =>
    have hn1 := bndN_int n
    rw [HN.out] at hn1
    by_cases h1 : n < 0
    · have e : N = 0 := by omega
      clear hn1 HN
      subst e
      go_wp2_with (at_make; refine wpList_make_full _ rfl _ _ _ rfl w.heap.size 3 i0 (.int .i64 0) 1 Try.underlying56 hi hz0 hz1 .i64 .i64 _ _ 0 rfl rfl (by first | rfl | omega) (by first | rfl | omega) (by first | omega | (rw [hz2]; omega)) (by unfold maxLen; omega) (Nat.le_refl _) ?_)
      intro w1 ho hg
      have HO : Hid (OwnN w1 w.heap.size (some ⟨w.heap.size, 0, none⟩) 0 0 (List.replicate 0 0) ∧ Below w.heap.size w w1) := ⟨OwnN.made ho, below_of_grown hg⟩
      clear ho hg
      go_wp2
      go_meet
      exact ⟨_, rfl, HO⟩
    · by_cases h2 : 64 < n
      · have e : N = 64 := by omega
        clear hn1 HN
        subst e
        go_wp2_with (at_make; refine wpList_make_full _ rfl _ _ _ rfl w.heap.size 3 i0 (.int .i64 0) 1 Try.underlying56 hi hz0 hz1 .i64 .i64 _ _ 64 rfl rfl (by first | rfl | omega) (by first | rfl | omega) (by first | omega | (rw [hz2]; omega)) (by unfold maxLen; omega) (Nat.le_refl _) ?_)
        intro w1 ho hg
        have HO : Hid (OwnN w1 w.heap.size (some ⟨w.heap.size, 0, none⟩) 64 64 (List.replicate 64 0) ∧ Below w.heap.size w w1) := ⟨OwnN.made ho, below_of_grown hg⟩
        clear ho hg
        go_wp2
        go_meet
        exact ⟨_, rfl, HO⟩
      · have e : n = (N : Int) := by omega
        clear hn1 HN
        subst e
        go_wp2_with (at_make; refine wpList_make_full _ rfl _ _ _ rfl w.heap.size 3 i0 (.int .i64 0) 1 Try.underlying56 hi hz0 hz1 .i64 .i64 _ _ N rfl rfl (by first | rfl | omega) (by first | rfl | omega) (by first | omega | (rw [hz2]; omega)) (by unfold maxLen; omega) (Nat.le_refl _) ?_)
        intro w1 ho hg
        have HO : Hid (OwnN w1 w.heap.size (some ⟨w.heap.size, 0, none⟩) N N (List.replicate N 0) ∧ Below w.heap.size w w1) := ⟨OwnN.made ho, below_of_grown hg⟩
        clear ho hg
        go_wp2
        go_meet
        exact ⟨_, rfl, HO⟩
  case rest =>
    obtain ⟨g, rfl, HO⟩ := hcut
    clear HN
    have n1 : (N : Int) ≤ 64 := by omega
    have n0 : (0 : Int) ≤ (N : Int) := by omega
    go_wp2
    go_loopw [4, 11] (fun _ iv wr => ∃ k : Nat, k ≤ N ∧ iv = .int .i64 k ∧ Hid (OwnN wr w.heap.size (some ⟨g, 0, none⟩) N N (halfR N k) ∧ Below w.heap.size w wr)) (fun _ iv _ => N - (intOf iv).toNat)
    case atStart => exact ⟨0, Nat.zero_le _, rfl, HO⟩
    case round =>
      clear HO
      obtain ⟨k, hk, rfl, HO⟩ := hrel
      have k0 : (0 : Int) ≤ (k : Int) := by omega
      by_cases hlt : k < N
      · have k1 : (k : Int) < (N : Int) := by omega
        have c0 := HO.out.1.cell hlt
        have t0 := HO.out.1.thaw k
        have HO2 : Hid (OwnN (wr.setCell ⟨g, k, none⟩ (.int .i64 (k : Int))) w.heap.size (some ⟨g, 0, none⟩) N N (halfR N (k + 1)) ∧ Below w.heap.size w (wr.setCell ⟨g, k, none⟩ (.int .i64 (k : Int)))) :=
          ⟨halfR_step hlt ▸ HO.out.1.set k k, HO.out.2.trans (below_of_grown_row (set_grown wr g k _) (by obtain ⟨g', e, h1, _⟩ := HO.out.1.form (by omega); injection e with e; injection e with e; omega) HO.out.2.size)⟩
        go_wp2
        go_roundw
        case rel => exact ⟨k + 1, by omega, by go_num, HO2⟩
        case measure => simp [intOf]; omega
      · have e : k = N := by omega
        have k1 : ¬ (k : Int) < (N : Int) := by omega
        have HO2 : Hid (OwnN wr w.heap.size (some ⟨g, 0, none⟩) N N (List.range N) ∧ Below w.heap.size w wr) := by
          have := HO.out
          rw [e, halfR_all] at this
          exact this
        clear e HO
        go_wp2
        go_ret
        exact ⟨g, rfl, HO2.out.1, HO2.out.2⟩
end Go.Proofs.Ytkfkjdpkkagjgaa
