/-
  Proved: for every two rows of limbs, NatDivides answers true and leaves them as they were: how often one is in the other, what is left, and their greatest common divisor are the document's own. No condition.
-/
import Derived.Test.YtojgpoochclnfaaNatDivides
import Derived.Test.YtojgpoochclnfaaOpen
namespace Go.Proofs.Ytojgpoochclnfaa
open Go.ChangeShapes Go.WideShapes Go.ChangeAt Go.RowKit

set_option maxHeartbeats 400000 in
theorem NatDivides_long (A B : Option Addr) (n m ka kb : Nat) (w : World) (h : 8 < n ∨ 8 < m) (hn : n ≤ 9223372036854775807) (hm : m ≤ 9223372036854775807) :
    Calls Try.prog 4 #[.slice A n ka, .slice B m kb] w fun e w' => e = .returned (.bool true) ∧ Below w.heap.size w w' := by
  by_cases h0 : 8 < n
  · clear h
    go_enter Try.func4, Try.ntmps4
    go_wp2
    go_ret
    exact ⟨rfl, Below.refl _ _⟩
  · skip
    have h1 : 8 < m := by omega
    clear h
    go_enter Try.func4, Try.ntmps4
    go_wp2
    go_ret
    exact ⟨rfl, Below.refl _ _⟩

theorem NatDivides_any (A B : Option Addr) (n m ka kb : Nat) (a b : List Nat) (w : World) (h_a_c : n ≤ ka) (h_b_c : m ≤ kb) (hka : ka ≤ 9223372036854775807) (hkb : kb ≤ 9223372036854775807) (h_a : Row w 0 A n a) (h_b : Row w 0 B m b) :
    Calls Try.prog 4 #[.slice A n ka, .slice B m kb] w fun e w' => e = .returned (.bool true) ∧ Below w.heap.size w w' := by
  by_cases h : 8 < n ∨ 8 < m
  · exact NatDivides_long A B n m ka kb  w h (by omega) (by omega)
  · have hgb : Bd (Nat.gcd (val a) (val b)) 8 := by
      by_cases h0 : val a = 0
      · rw [h0, Nat.gcd_zero_left]; exact h_b.bd (by omega)
      · exact (h_a.bd (by omega)).le (Nat.le_of_dvd (Nat.pos_of_ne_zero h0) (Nat.gcd_dvd_left _ _))
    by_cases h0 : val b = 0
    · exact NatDivides_zero A B n m ka kb (val a) (val b) _ a b w (by omega) (by omega) h_a_c h_b_c h_a h_b rfl rfl rfl hgb h0
    · exact NatDivides_pos A B n m ka kb (val a) (val b) _ a b w (by omega) (by omega) h_a_c h_b_c h_a h_b rfl rfl rfl hgb (Nat.pos_of_ne_zero h0)
set_option maxRecDepth 100000 in
theorem natDivides_lifted (os : Os) (started : os.Started) (H : Type) (enc : TypeId × Value → H) :
    ReturnsInHanded {} Try.checked os 4 .any (Rows.natDividesSpec.pre6 enc Try.prog Try.f4 Rows.natDividesRow.domain false) (Rows.natDividesSpec.post enc Try.prog Try.f4 false true false false) := by
  refine returnsInHanded_of_change (C := Try.checked) Try.own started (by kernel_rfl) Try.func4
    (ChangeSpec.witness6 (enc := enc) (C := Try.checked) false ⟨#[], #[.slice none 0 0, .slice none 0 0], []⟩ 8 (by kernel_rfl) (by kernel_rfl) (by kernel_rfl) (by kernel_rfl)) ?_
  intro W base args ds gs before hval0 hW hcnd _
  have hval : ∀ (j : Nat) t v, Try.f4.params[j]? = some t → args[j]? = some v → Value.okWide Try.prog W .any base t v := hval0
  have hW' := hW
  obtain ⟨p, q, hA0, hV, rfl, hfz, hnd⟩ := hW
  have hA : DataW.TrodAll enc Try.prog W 0 (fun _ => true) true Try.f4.params.toList args.toList ds p := hA0
  rw [Try.params4] at hA hval
  obtain ⟨v0, v1, d0, d1, p0, p1, rfl, rfl, rfl, h0, h1⟩ := trodAll_two hA
  obtain ⟨rfl, rfl⟩ := trodVars_none hV
  clear hA0 hval0
  simp only [List.append_nil] at hW'
  have hlt : ∀ x, x ∈ p0 ∨ x ∈ p1 → x.block < W.heap.size := fun x hx => hW'.lt x (by simpa using hx)
  have hlt0 : ∀ x ∈ p0, x.block < W.heap.size := fun x hx => hlt x (.inl hx)
  have hlt1 : ∀ x ∈ p1, x.block < W.heap.size := fun x hx => hlt x (.inr hx)
  obtain ⟨A, n, ka, a, rfl, hc0, hk0, r0⟩ := open_row h0 (hval 0 _ v0 rfl rfl) hlt0
  obtain ⟨B, m, kb, b, rfl, hc1, hk1, r1⟩ := open_row h1 (hval 1 _ v1 rfl rfl) hlt1
  have hargs : ∀ (W' : World) (v : Value) (d : DataW H) (ps : List MemPlace), DataW.Trod enc Try.prog W 0 (fun _ => true) true 22 v d ps → (∀ x ∈ ps, x.block < W.heap.size) → Below W.heap.size W W' → DataW.Trod enc Try.prog W' 0 (fun b => decide (b < W.heap.size)) true 22 v d ps :=
    fun W' v d ps h hl hn => Below.trod Try.laidOut (by kernel_rfl) (of_decide_eq_true (by kernel_rfl)) h hn hl
  refine (NatDivides_any A B n m ka kb a b  W hc0 hc1 hk0 hk1 r0 r1 ).mono fun e W' ⟨he, hnx⟩ => ?_
  subst he
  refine ⟨_, rfl, _, _, _, [], _, [], hW', ?_, trodAll_mk2 (hargs _ _ _ _ h0 hlt0 hnx) (hargs _ _ _ _ h1 hlt1 hnx), rfl, hnx.frame _, fun h => by cases h⟩
  exact trodAll_mk1 (shut_bool Try.underlying4 true)

theorem natDivides_holds : Rows.NatDividesSaid :=
  OpenClaim.holds_of_wide 4 Try.f4 rfl rfl rfl rfl rfl rfl rfl ⟨rfl, rfl, rfl, rfl, rfl⟩ rfl rfl rfl rfl rfl (by kernel_rfl) Try.func4 (by kernel_rfl)
    (of_decide_eq_true (by kernel_rfl)) (by unfold Func.isWrapper; first | (rw [if_pos (by decide +kernel)]; kernel_rfl) | (rw [if_neg (by decide +kernel)]; exact ⟨rfl, rfl⟩))
    (fun os started H enc _ => natDivides_lifted os started H enc)
end Go.Proofs.Ytojgpoochclnfaa
