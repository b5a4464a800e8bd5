/-
  P7.1: for every two expressions, of any kinds, numbers, names and kids, and every row of names CheckFewer answers true and leaves what it was handed as it was: what is linear of some fields is linear of fewer, of none all is, a difference is, if both sides are. No condition.
-/
import Derived.Test.YtcmkgoikmleanaaCheckFewer
namespace Go.Proofs.Ytcmkgoikmleanaa
set_option maxRecDepth 20000
open Go.Joins Go.ChangeShapes Go.WideShapes Go.ChangeAt Go.RowKit Go.WideMaps

theorem open_strs {H : Type} {enc : TypeId × Value → H} {W : World} {v : Value} {d : DataW H} {p : List MemPlace} (h0 : DataW.Trod enc Try.prog W 0 (fun _ => true) true 37 v d p)
    {base : Nat} (hval : Value.okWide Try.prog W .any base 37 v) (hlt : ∀ x ∈ p, x.block < W.heap.size) (hsz : ∀ n ∈ d.weights Try.prog 37, n ≤ reachBytes) :
    ∃ A n c ss, v = .slice A n c ∧ n ≤ c ∧ n ≤ 100000000000000 ∧ Strs W A n ss := by
  obtain ⟨a0, len, cap, rfl⟩ := okWide_slice Try.underlying37 hval
  obtain ⟨fuel, hf⟩ := h0
  rcases open_strings Try.underlying37 Try.underlying9 Try.cells9 hf with ⟨hcs, hx⟩ | ⟨a, len', cap', ss, hcs, _, hl, hm, hz, hx, hcell, hsize⟩
  · simp [Value.cells] at hcs
    obtain ⟨rfl, rfl, rfl⟩ := hcs
    exact ⟨none, 0, 0, [], rfl, Nat.le_refl _, by omega, rfl, fun _ => Nat.zero_le _, fun h => absurd h (by omega)⟩
  · simp [Value.cells] at hcs
    obtain ⟨rfl, rfl, rfl⟩ := hcs
    simp only [Prod.mk.injEq] at hx
    obtain ⟨rfl, rfl⟩ := hx
    simp only [if_true] at hz
    have h2 : reachBytes < 2 ^ 47 := reachBytes_lt
    have hcap : cap ≤ 100000000000000 := by
      have h1 := hsz ((strs (H := H) (List.take len ss)).length * 16 + (strs (H := H) (List.drop len ss)).length * 16) (by
        simp [DataW.weights, Try.underlying37, Try.bytes9, Nat.add_mul])
      simp [strs] at h1
      omega
    have hlen : (ss.take len).length = len := by simp; omega
    refine ⟨some a, len, cap, ss.take len, rfl, hl, by omega, hlen, fun i => ?_, fun hn => ?_⟩
    · by_cases hi : i < (ss.take len).length
      · have e1 : (ss.take len).getD i ByteArray.empty = (ss.take len)[i] := by simp [List.getD, List.getElem?_eq_getElem hi]
        rw [e1]
        have hmem : (ss.take len)[i] ∈ ss.take len := List.getElem_mem hi
        have h9 := hsz ((ss.take len)[i]).data.toList.length (by
          simp only [DataW.weights, Try.underlying37, List.mem_cons, List.mem_append]
          refine .inr (.inl (weightsAll_in (d := .lit (.string ((ss.take len)[i]).data.toList)) ?_ _ ?_))
          · simp [DataW.weights]
          · exact List.mem_map.2 ⟨_, hmem, rfl⟩)
        rw [data_size] at h9
        omega
      · have e1 : (ss.take len).getD i ByteArray.empty = ByteArray.empty := by
          rw [List.getD, List.getElem?_eq_none (by omega)]; rfl
        rw [e1]; exact Nat.zero_le _
    · obtain ⟨b, off, spot⟩ := a
      have hspot : spot = none := by simpa [Addr.add] using World.cell?_spot (hcell 0 (by omega))
      subst hspot
      have hbW : b < W.heap.size := hlt (.cell b off) (MemPlace.mem_row.2 ⟨0, by omega, by simp⟩)
      refine ⟨b, off, rfl, hbW, fun j hj => ?_⟩
      rw [← add_plain, hcell j (by omega)]
      simp [List.getD, hj]

set_option maxRecDepth 100000 in
theorem checkFewer_lifted (os : Os) (started : os.Started) (H : Type) (enc : TypeId × Value → H) :
    ReturnsInHanded {} Try.checked os 5 .any (Rows.checkFewerSpec.pre6 enc Try.prog Try.f5 Rows.checkFewerRow.domain false) (Rows.checkFewerSpec.post enc Try.prog Try.f5 false true false false) := by
  refine returnsInHanded_of_change_sized (C := Try.checked) Try.own started (by kernel_rfl) Try.func5
    (ChangeSpec.witness6 (enc := enc) (C := Try.checked) false ⟨#[], #[.agg #[.int .i64 0, .bool false, .slice none 0 0, .slice none 0 0, .string ByteArray.empty, .slice none 0 0], .agg #[.int .i64 0, .bool false, .slice none 0 0, .slice none 0 0, .string ByteArray.empty, .slice none 0 0], .slice none 0 0], []⟩ 8 (by kernel_rfl) (by kernel_rfl) (by kernel_rfl) (by kernel_rfl)) ?_
  intro W base args ds gs before hval0 hW hcnd hsz _
  have hval : ∀ (j : Nat) t v, Try.f5.params[j]? = some t → args[j]? = some v → Value.okWide Try.prog W .any base t v := hval0
  have hW' := hW
  obtain ⟨p, q, hA0, hV, rfl, hfz, hnd⟩ := hW
  have hA : DataW.TrodAll enc Try.prog W 0 (fun _ => true) true Try.f5.params.toList args.toList ds p := hA0
  rw [Try.params5] at hA hval
  obtain ⟨v0, v1, v2, d0, d1, d2, p0, p1, p2, rfl, rfl, rfl, h0, h1, h2⟩ := trodAll_three hA
  obtain ⟨rfl, rfl⟩ := trodVars_none hV
  clear hA0 hval0
  simp only [List.append_nil] at hW'
  have hlt0 : ∀ x ∈ p0, x.block < W.heap.size := fun x hx => hW'.lt x (by simp [hx])
  have hlt1 : ∀ x ∈ p1, x.block < W.heap.size := fun x hx => hW'.lt x (by simp [hx])
  have hlt2 : ∀ x ∈ p2, x.block < W.heap.size := fun x hx => hW'.lt x (by simp [hx])
  obtain ⟨u0, t0, rfl, r0⟩ := open_expr h0 (hval 0 _ v0 rfl rfl) hlt0 (fun n hn => by simpa using List.all_eq_true.1 hsz _ (DataW.weights_mem_each (j := 0) rfl rfl n hn))
  obtain ⟨u1, t1, rfl, r1⟩ := open_expr h1 (hval 1 _ v1 rfl rfl) hlt1 (fun n hn => by simpa using List.all_eq_true.1 hsz _ (DataW.weights_mem_each (j := 1) rfl rfl n hn))
  obtain ⟨A, n, c, ss, rfl, hnc, hn9, hss⟩ := open_strs h2 (hval 2 _ v2 rfl rfl) hlt2 (fun n hn => by simpa using List.all_eq_true.1 hsz _ (DataW.weights_mem_each (j := 2) rfl rfl n hn))
  have hargs_e : ∀ (W' : World) (v : Value) (d : DataW H) (ps : List MemPlace), DataW.Trod enc Try.prog W 0 (fun _ => true) true 36 v d ps → (∀ x ∈ ps, x.block < W.heap.size) → Below W.heap.size W W' → DataW.Trod enc Try.prog W' 0 (fun b => decide (b < W.heap.size)) true 36 v d ps :=
    fun W' v d ps h hl hn => Below.trod Try.laidOut (by kernel_rfl) (of_decide_eq_true (by kernel_rfl)) h hn hl
  have hargs_s : ∀ (W' : World) (v : Value) (d : DataW H) (ps : List MemPlace), DataW.Trod enc Try.prog W 0 (fun _ => true) true 37 v d ps → (∀ x ∈ ps, x.block < W.heap.size) → Below W.heap.size W W' → DataW.Trod enc Try.prog W' 0 (fun b => decide (b < W.heap.size)) true 37 v d ps :=
    fun W' v d ps h hl hn => Below.trod Try.laidOut (by kernel_rfl) (of_decide_eq_true (by kernel_rfl)) h hn hl
  refine (CheckFewer_any t0 t1 u0 u1 A n c ss W r0 r1 hss hnc hn9).mono fun e W' ⟨he, hnx⟩ => ?_
  subst he
  refine ⟨_, rfl, _, _, _, [], _, [], hW', ?_, (trodAll_mk3 (hargs_e _ _ _ _ h0 hlt0 hnx) (hargs_e _ _ _ _ h1 hlt1 hnx) (hargs_s _ _ _ _ h2 hlt2 hnx)), rfl, hnx.frame _, fun h => by cases h⟩
  exact trodAll_mk1 (shut_bool Try.underlying4 true)

theorem checkFewer_holds : Rows.CheckFewerSaid :=
  OpenClaim.holds_of_wide 5 Try.f5 rfl rfl rfl rfl rfl rfl rfl ⟨rfl, rfl, rfl, rfl, rfl⟩ rfl rfl rfl rfl rfl (by kernel_rfl) Try.func5 (by kernel_rfl)
    (of_decide_eq_true (by kernel_rfl)) (by unfold Func.isWrapper; first | (rw [if_pos (by decide +kernel)]; kernel_rfl) | (rw [if_neg (by decide +kernel)]; exact ⟨rfl, rfl⟩))
    (fun os started H enc _ => checkFewer_lifted os started H enc)
end Go.Proofs.Ytcmkgoikmleanaa
