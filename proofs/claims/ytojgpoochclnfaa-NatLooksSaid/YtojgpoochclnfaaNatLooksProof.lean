/-
  Proved: for every row of limbs, every number of 64 bits and every int, NatLooks answers true and leaves the row as it was: what is trimmed, how many bits it takes, as 64 bits and back, and shifted, are as the document says. No condition.
-/
import Derived.Test.YtojgpoochclnfaaNatLooks
import Derived.Test.YtojgpoochclnfaaOpen
namespace Go.Proofs.Ytojgpoochclnfaa
open Go.ChangeShapes Go.WideShapes Go.ChangeAt Go.RowKit

set_option maxHeartbeats 400000 in
theorem NatLooks_long (A : Option Addr) (n ka : Nat) (i1 : Int) (i2 : Int) (w : World) (h : 20 < n) (hn : n ≤ 9223372036854775807) :
    Calls Try.prog 5 #[.slice A n ka, .int .u64 i1, .int .i64 i2] w fun e w' => e = .returned (.bool true) ∧ Below w.heap.size w w' := by
  have h0 : 20 < n := by omega
  clear h
  go_enter Try.func5, Try.ntmps5
  go_wp2
  go_ret
  exact ⟨rfl, Below.refl _ _⟩

theorem NatLooks_any (A : Option Addr) (n ka : Nat) (a : List Nat) (i1 : Int) (i2 : Int) (w : World) (h_a_c : n ≤ ka) (hka : ka ≤ 9223372036854775807) (h_a : Row w 0 A n a) (hi1 : 0 ≤ i1 ∧ i1 < 18446744073709551616) (hi2 : -9223372036854775808 ≤ i2 ∧ i2 ≤ 9223372036854775807) :
    Calls Try.prog 5 #[.slice A n ka, .int .u64 i1, .int .i64 i2] w fun e w' => e = .returned (.bool true) ∧ Below w.heap.size w w' := by
  by_cases h : 20 < n
  · exact NatLooks_long A n ka i1 i2 w h (by omega)
  · obtain ⟨x, rfl⟩ : ∃ x : Nat, i1 = (x : Int) := ⟨i1.toNat, by omega⟩
    have hx : x < 18446744073709551616 := by omega
    by_cases hl2 : (lim (val a)).length ≤ 2
    · by_cases his : n = 0 ∨ dg a (n - 1) ≠ 0
      · exact NatLooks_sy A n ka a x i2 w hx hi2 (by omega) h_a_c h_a hl2 his
      · exact NatLooks_sn A n ka a x i2 w hx hi2 (by omega) h_a_c h_a hl2 (by omega) (by omega)
    · by_cases his : n = 0 ∨ dg a (n - 1) ≠ 0
      · exact NatLooks_ly A n ka a x i2 w hx hi2 (by omega) h_a_c h_a (by omega) his
      · exact NatLooks_ln A n ka a x i2 w hx hi2 (by omega) h_a_c h_a (by omega) (by omega) (by omega)
set_option maxRecDepth 100000 in
theorem natLooks_lifted (os : Os) (started : os.Started) (H : Type) (enc : TypeId × Value → H) :
    ReturnsInHanded {} Try.checked os 5 .any (Rows.natLooksSpec.pre6 enc Try.prog Try.f5 Rows.natLooksRow.domain false) (Rows.natLooksSpec.post enc Try.prog Try.f5 false true false false) := by
  refine returnsInHanded_of_change (C := Try.checked) Try.own started (by kernel_rfl) Try.func5
    (ChangeSpec.witness6 (enc := enc) (C := Try.checked) false ⟨#[], #[.slice none 0 0, .int .u64 0, .int .i64 0], []⟩ 8 (by kernel_rfl) (by kernel_rfl) (by kernel_rfl) (by kernel_rfl)) ?_
  intro W base args ds gs before hval0 hW hcnd _
  have hval : ∀ (j : Nat) t v, Try.f5.params[j]? = some t → args[j]? = some v → Value.okWide Try.prog W .any base t v := hval0
  have hW' := hW
  obtain ⟨p, q, hA0, hV, rfl, hfz, hnd⟩ := hW
  have hA : DataW.TrodAll enc Try.prog W 0 (fun _ => true) true Try.f5.params.toList args.toList ds p := hA0
  rw [Try.params5] at hA hval
  obtain ⟨v0, v1, v2, d0, d1, d2, p0, p1, p2, rfl, rfl, rfl, h0, h1, h2⟩ := trodAll_three hA
  obtain ⟨rfl, rfl⟩ := trodVars_none hV
  clear hA0 hval0
  simp only [List.append_nil] at hW'
  obtain ⟨i1, rfl, rfl, rfl, wi1⟩ := open_int Try.underlying31 (hval 1 _ v1 rfl rfl) h1
  obtain ⟨i2, rfl, rfl, rfl, wi2⟩ := open_int Try.underlying3 (hval 2 _ v2 rfl rfl) h2
  have hlt : ∀ x, x ∈ p0 → x.block < W.heap.size := fun x hx => hW'.lt x (by simpa using hx)
  have hlt0 : ∀ x ∈ p0, x.block < W.heap.size := fun x hx => hlt x hx
  obtain ⟨A, n, ka, a, rfl, hc0, hk0, r0⟩ := open_row h0 (hval 0 _ v0 rfl rfl) hlt0
  have hi1 : 0 ≤ i1 ∧ i1 < 18446744073709551616 := by
    have e1 : IntKind.u64.min = 0 := rfl
    have e2 : IntKind.u64.max = 18446744073709551615 := rfl
    have := wi1
    simp only [Lit.wf, Bool.and_eq_true, decide_eq_true_eq] at this
    omega
  have hi2 : -9223372036854775808 ≤ i2 ∧ i2 ≤ 9223372036854775807 := by
    have e1 : IntKind.i64.min = -9223372036854775808 := rfl
    have e2 : IntKind.i64.max = 9223372036854775807 := rfl
    have := wi2
    simp only [Lit.wf, Bool.and_eq_true, decide_eq_true_eq] at this
    omega
  have hargs : ∀ (W' : World) (v : Value) (d : DataW H) (ps : List MemPlace), DataW.Trod enc Try.prog W 0 (fun _ => true) true 22 v d ps → (∀ x ∈ ps, x.block < W.heap.size) → Below W.heap.size W W' → DataW.Trod enc Try.prog W' 0 (fun b => decide (b < W.heap.size)) true 22 v d ps :=
    fun W' v d ps h hl hn => Below.trod Try.laidOut (by kernel_rfl) (of_decide_eq_true (by kernel_rfl)) h hn hl
  refine (NatLooks_any A n ka a i1 i2 W hc0 hk0 r0 hi1 hi2).mono fun e W' ⟨he, hnx⟩ => ?_
  subst he
  refine ⟨_, rfl, _, _, _, [], _, [], hW', ?_, trodAll_mk3 (hargs _ _ _ _ h0 hlt0 hnx) (shut_int Try.underlying31 wi1) (shut_int Try.underlying3 wi2), rfl, hnx.frame _, fun h => by cases h⟩
  exact trodAll_mk1 (shut_bool Try.underlying4 true)

theorem natLooks_holds : Rows.NatLooksSaid :=
  OpenClaim.holds_of_wide 5 Try.f5 rfl rfl rfl rfl rfl rfl rfl ⟨rfl, rfl, rfl, rfl, rfl⟩ rfl rfl rfl rfl rfl (by kernel_rfl) Try.func5 (by kernel_rfl)
    (of_decide_eq_true (by kernel_rfl)) (by unfold Func.isWrapper; first | (rw [if_pos (by decide +kernel)]; kernel_rfl) | (rw [if_neg (by decide +kernel)]; exact ⟨rfl, rfl⟩))
    (fun os started H enc _ => natLooks_lifted os started H enc)
end Go.Proofs.Ytojgpoochclnfaa
