/-
  Proved: for every three rows of limbs, NatLaws answers true and leaves them as they were: sums and products may be turned round, a product of a sum is the sum of products, and products may be put together otherwise. No condition.
-/
import Derived.Test.YtojgpoochclnfaaNatLaws
import Derived.Test.YtojgpoochclnfaaOpen
namespace Go.Proofs.Ytojgpoochclnfaa
open Go.ChangeShapes Go.WideShapes Go.ChangeAt Go.RowKit

set_option maxHeartbeats 400000 in
theorem NatLaws_long (A B C : Option Addr) (n m q ka kb kc : Nat) (w : World) (h : 20 < n ∨ 20 < m ∨ 20 < q) (hn : n ≤ 9223372036854775807) (hm : m ≤ 9223372036854775807) (hq : q ≤ 9223372036854775807) :
    Calls Try.prog 7 #[.slice A n ka, .slice B m kb, .slice C q kc] w fun e w' => e = .returned (.bool true) ∧ Below w.heap.size w w' := by
  by_cases h1 : 20 < n
  · clear h
    go_enter Try.func7, Try.ntmps7
    go_wp2
    go_ret
    exact ⟨rfl, Below.refl _ _⟩
  · by_cases h2 : 20 < m
    · clear h
      go_enter Try.func7, Try.ntmps7
      go_wp2
      go_ret
      exact ⟨rfl, Below.refl _ _⟩
    · have h3 : 20 < q := by omega
      clear h
      go_enter Try.func7, Try.ntmps7
      go_wp2
      go_ret
      exact ⟨rfl, Below.refl _ _⟩

theorem NatLaws_any (A B C : Option Addr) (n m q ka kb kc : Nat) (a b c : List Nat) (w : World) (h_a_c : n ≤ ka) (h_b_c : m ≤ kb) (h_c_c : q ≤ kc) (hka : ka ≤ 9223372036854775807) (hkb : kb ≤ 9223372036854775807) (hkc : kc ≤ 9223372036854775807) (h_a : Row w 0 A n a) (h_b : Row w 0 B m b) (h_c : Row w 0 C q c) :
    Calls Try.prog 7 #[.slice A n ka, .slice B m kb, .slice C q kc] w fun e w' => e = .returned (.bool true) ∧ Below w.heap.size w w' := by
  by_cases h : 20 < n ∨ 20 < m ∨ 20 < q
  · exact NatLaws_long A B C n m q ka kb kc w h (by omega) (by omega) (by omega)
  · exact NatLaws_small A B C n m q ka kb kc a b c w (by omega) (by omega) (by omega) h_a_c h_b_c h_c_c h_a h_b h_c

set_option maxRecDepth 100000 in
theorem natLaws_lifted (os : Os) (started : os.Started) (H : Type) (enc : TypeId × Value → H) :
    ReturnsInHanded {} Try.checked os 7 .any (Rows.natLawsSpec.pre6 enc Try.prog Try.f7 Rows.natLawsRow.domain false) (Rows.natLawsSpec.post enc Try.prog Try.f7 false true false false) := by
  refine returnsInHanded_of_change (C := Try.checked) Try.own started (by kernel_rfl) Try.func7
    (ChangeSpec.witness6 (enc := enc) (C := Try.checked) false ⟨#[], #[.slice none 0 0, .slice none 0 0, .slice none 0 0], []⟩ 8 (by kernel_rfl) (by kernel_rfl) (by kernel_rfl) (by kernel_rfl)) ?_
  intro W base args ds gs before hval0 hW hcnd _
  have hval : ∀ (j : Nat) t v, Try.f7.params[j]? = some t → args[j]? = some v → Value.okWide Try.prog W .any base t v := hval0
  have hW' := hW
  obtain ⟨p, q, hA0, hV, rfl, hfz, hnd⟩ := hW
  have hA : DataW.TrodAll enc Try.prog W 0 (fun _ => true) true Try.f7.params.toList args.toList ds p := hA0
  rw [Try.params7] at hA hval
  obtain ⟨v0, v1, v2, d0, d1, d2, p0, p1, p2, rfl, rfl, rfl, h0, h1, h2⟩ := trodAll_three hA
  obtain ⟨rfl, rfl⟩ := trodVars_none hV
  clear hA0 hval0
  simp only [List.append_nil] at hW'
  have hlt : ∀ x ∈ p0 ++ (p1 ++ p2), x.block < W.heap.size := fun x hx => hW'.lt x (by simpa using hx)
  have hlt0 : ∀ x ∈ p0, x.block < W.heap.size := fun x hx => hlt x (by simp [hx])
  have hlt1 : ∀ x ∈ p1, x.block < W.heap.size := fun x hx => hlt x (by simp [hx])
  have hlt2 : ∀ x ∈ p2, x.block < W.heap.size := fun x hx => hlt x (by simp [hx])
  obtain ⟨A, n, ka, a, rfl, hka, ka1, ra⟩ := open_row h0 (hval 0 _ v0 rfl rfl) hlt0
  obtain ⟨B, m, kb, b, rfl, hkb, kb1, rb⟩ := open_row h1 (hval 1 _ v1 rfl rfl) hlt1
  obtain ⟨C, q, kc, c, rfl, hkc, kc1, rc⟩ := open_row h2 (hval 2 _ v2 rfl rfl) hlt2
  have hargs : ∀ (W' : World) (v : Value) (d : DataW H) (ps : List MemPlace), DataW.Trod enc Try.prog W 0 (fun _ => true) true 22 v d ps → (∀ x ∈ ps, x.block < W.heap.size) → Below W.heap.size W W' → DataW.Trod enc Try.prog W' 0 (fun b => decide (b < W.heap.size)) true 22 v d ps :=
    fun W' v d ps h hl hn => Below.trod Try.laidOut (by kernel_rfl) (of_decide_eq_true (by kernel_rfl)) h hn hl
  refine (NatLaws_any A B C n m q ka kb kc a b c W hka hkb hkc ka1 kb1 kc1 ra rb rc).mono fun e W' ⟨he, hnx⟩ => ?_
  subst he
  refine ⟨_, rfl, _, _, _, [], _, [], hW', ?_, trodAll_mk3 (hargs _ _ _ _ h0 hlt0 hnx) (hargs _ _ _ _ h1 hlt1 hnx) (hargs _ _ _ _ h2 hlt2 hnx), rfl, hnx.frame _, fun h => by cases h⟩
  exact trodAll_mk1 (shut_bool Try.underlying4 true)

theorem natLaws_holds : Rows.NatLawsSaid :=
  OpenClaim.holds_of_wide 7 Try.f7 rfl rfl rfl rfl rfl rfl rfl ⟨rfl, rfl, rfl, rfl, rfl⟩ rfl rfl rfl rfl rfl (by kernel_rfl) Try.func7 (by kernel_rfl)
    (of_decide_eq_true (by kernel_rfl)) (by unfold Func.isWrapper; first | (rw [if_pos (by decide +kernel)]; kernel_rfl) | (rw [if_neg (by decide +kernel)]; exact ⟨rfl, rfl⟩))
    (fun os started H enc _ => natLaws_lifted os started H enc)
end Go.Proofs.Ytojgpoochclnfaa
