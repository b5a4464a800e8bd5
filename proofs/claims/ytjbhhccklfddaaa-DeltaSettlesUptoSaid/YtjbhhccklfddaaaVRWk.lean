/-
  Who tells a variable, and how strong it is, by the document.
-/
import Derived.Test.YtjbhhccklfddaaaVDlE
namespace Go.Proofs.Ytjbhhccklfddaaa
set_option maxRecDepth 20000
open Go.RowKit
theorem find_range (p : Nat → Bool) : ∀ N, (List.range N).find? p = none ∨ ∃ i, i < N ∧ p i = true ∧ (∀ j, j < i → p j = false) ∧ (List.range N).find? p = some i := by
 intro N
 induction N with
 | zero => left; rfl
 |
  succ N ih =>
  rw [List.range_succ, List.find?_append]
  rcases ih with h | ⟨i, hi, h1, h2, h3⟩
  ·
   rw [h]
   cases hp : p N with
   | false => left; simp [hp]
   |
    true =>
    right
    refine ⟨N, by omega, hp, fun j hj => ?_, by simp [hp]⟩
    have := List.find?_eq_none.1 h j (List.mem_range.2 hj)
    simpa using this
  ·
   right
   exact ⟨i, by omega, h1, h2, by rw [h3]; rfl⟩
theorem tel_first {N : Nat} {o : Nat → Option Nat} {v i : Nat} (hi : i < N) (h : o i = some v) (hf : ∀ j, j < i → o j ≠ some v) : tel N o v = some i := by
 unfold tel
 rcases find_range (fun i => o i == some v) N with g | ⟨k, hk, g1, g2, g3⟩
 · exact absurd (List.find?_eq_none.1 g i (List.mem_range.2 hi)) (by simp [h])
 ·
  rw [g3]
  have gk : o k = some v := eq_of_beq g1
  rcases Nat.lt_trichotomy i k with l | l | l
  · have := g2 i l; rw [h] at this; simp at this
  · rw [l]
  · exact absurd gk (hf k l)
set_option maxHeartbeats 3200000 in
theorem who_c {N : Nat} {o : Nat → Option Nat} (OA : Option Addr) (oc v : Nat) (w : World) (hO : ZRow w OA N (outsL N o)) (hN : N ≤ 1000) :
  Calls Try.prog 51 #[.slice OA N oc, .int .i64 (v : Int)] w fun e w' => e = .returned (.int .i64 (oi (tel N o v))) ∧ Below w.heap.size w w' := by
 have N0 : (0 : Int) ≤ (N : Int) := by omega
 have HO := Lib.hid hO
 clear hO
 have HR0 : Hid (∀ j, j < 0 → o j ≠ some v) := fun j hj => absurd hj (Nat.not_lt_zero _)
 go_enter Try.func51, Try.ntmps51
 go_wp2
 go_loopw [5] (fun iv wr => ∃ i : Nat, i ≤ N ∧ iv = .int .i64 i ∧ Hid (∀ j, j < i → o j ≠ some v) ∧ w = wr) (fun iv _ => N - (intOf iv).toNat)
 case atStart => exact ⟨0, Nat.zero_le _, rfl, HR0, rfl⟩
 case round =>
  clear HR0
  obtain ⟨i, hi, rfl, HR, rfl⟩ := hrel
  have i0 : (0 : Int) ≤ (i : Int) := by omega
  by_cases hlt : i < N
  ·
   have i1 : (i : Int) < (N : Int) := by omega
   obtain ⟨bo, oo, hOA, _, hoc⟩ := HO.out.mem (by omega)
   have c0 := hoc i hlt
   rw [outsL_zt hlt] at c0
   subst hOA
   clear hoc
   by_cases hov : o i = some v
   ·
    rw [hov] at c0
    have c0' : w.cell? ⟨bo, oo + i, none⟩ = some (.int .i64 (v : Int)) := c0
    have HF : Hid (tel N o v = some i) := tel_first hlt hov HR.out
    clear c0 hov
    go_wp2
    go_ret
    exact ⟨by rw [HF.out]; rfl, Below.refl _ _⟩
   ·
    have hne : ¬ oi (o i) = (v : Int) := fun e => hov (oi_inj (b := some v) e)
    have HR2 : Hid (∀ j, j < i + 1 → o j ≠ some v) := fun j hj => by
     by_cases e : j = i
     · rw [e]; exact hov
     · exact HR.out j (by omega)
    obtain ⟨q, hq⟩ : ∃ q, q = oi (o i) := ⟨_, rfl⟩
    rw [← hq] at c0 hne
    clear hov hq
    go_wp2
    go_roundw
    case rel => exact ⟨i + 1, by omega, by go_num, HR2, by trivial⟩
    case measure => simp [intOf]; omega
  ·
   have i1 : ¬ (i : Int) < (N : Int) := by omega
   have HF : Hid (tel N o v = none) := tel_none.2 fun j hj => HR.out j (by omega)
   go_wp2
   go_ret
   exact ⟨by rw [HF.out]; rfl, Below.refl _ _⟩
end Go.Proofs.Ytjbhhccklfddaaa
