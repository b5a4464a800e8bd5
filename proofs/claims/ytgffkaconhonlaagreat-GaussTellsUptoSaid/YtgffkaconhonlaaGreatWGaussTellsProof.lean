/-
  GaussTells: of any sums whether they can hold, how many are independent, what a variable must be, whether another one holds, too: proved for all arguments of the second form's bulk.
-/
import Derived.Test.YtgffkaconhonlaaGreatWGaussTells
import Derived.Test.YtgffkaconhonlaaGreatWOpenN
import Derived.Test.YtgffkaconhonlaaGreatRows
import Derived.WalkKit
import Derived.ProofKit
import Derived.OpenShut
import Derived.JoinedCond
namespace Go.Proofs.YtgffkaconhonlaaGreat
set_option maxRecDepth 20000
open Go.Joins Go.ChangeShapes Go.WideShapes Go.ChangeAt Go.RowKit
theorem open_intV {H : Type} {enc : TypeId × Value → H} {W : World} {v : Value} {d : DataW H} {p : List MemPlace} (h0 : DataW.Trod enc Tryz.prog W 0 (fun _ => true) true 3 v d p)
  {base : Nat} (hval : Value.okWide Tryz.prog W .any base 3 v) : ∃ i : Int, v = .int .i64 i ∧ (0 ≤ i ∧ i ≤ 9223372036854775807 ∨ i < 0 ∧ -9223372036854775808 ≤ i) := by
 obtain ⟨i, rfl⟩ := okWide_int Tryz.underlying3 hval
 obtain ⟨fuel, hf⟩ := h0
 obtain ⟨j, e, _, wi⟩ := DataW.trod_int Tryz.underlying3 hf
 simp only [Value.cells] at e
 refine ⟨i, rfl, ?_⟩
 have hij : i = j := by simpa using e
 subst hij
 simp only [Lit.wf, Bool.and_eq_true, decide_eq_true_eq] at wi
 have h1 : IntKind.i64.min = -9223372036854775808 := rfl
 have h2 : IntKind.i64.max = 9223372036854775807 := rfl
 omega
theorem gaussTells_contract (H : Type) (enc : TypeId × Value → H) (W : World) (base : Nat) (args : Array Value) (ds gs : List (DataW H)) (before : List MemPlace)
  (hval0 : ∀ (j : Nat) t v, Tryz.f3.params[j]? = some t → args[j]? = some v → Value.okWide Tryz.prog W .any base t v)
  (hW : DataW.Whole enc Tryz.prog Tryz.f3.params.toList Rows.gaussTellsSpec.vars false W args.toList ds gs before) (hk : Rows.uptoSmall H (ds ++ gs) = true) :
  Calls Tryz.prog 3 args W fun e W' => ∃ v, e = .returned v ∧ Rows.gaussTellsSpec.post enc Tryz.prog Tryz.f3 false true false false W args v W' := by
 have hval : ∀ (j : Nat) t v, Tryz.f3.params[j]? = some t → args[j]? = some v → Value.okWide Tryz.prog W .any base t v := hval0
 have hW' := hW
 obtain ⟨p, q, hA0, hV, rfl, hfz, hnd⟩ := hW
 have hA : DataW.TrodAll enc Tryz.prog W 0 (fun _ => true) true Tryz.f3.params.toList args.toList ds p := hA0
 rw [Tryz.params3] at hA hval
 obtain ⟨v0, vs0, d0, ds0, p0, q0, hargs, rfl, rfl, h0, r0⟩ := trodAll_cons hA
 obtain ⟨v1, vs1, d1, ds1, p1, q1, rfl, rfl, rfl, h1, r1⟩ := trodAll_cons r0
 obtain ⟨v2, vs2, d2, ds2, p2, q2, rfl, rfl, rfl, h2, r2⟩ := trodAll_cons r1
 obtain ⟨v3, vs3, d3, ds3, p3, q3, rfl, rfl, rfl, h3, r3⟩ := trodAll_cons r2
 obtain ⟨v4, vs4, d4, ds4, p4, q4, rfl, rfl, rfl, h4, r4⟩ := trodAll_cons r3
 obtain ⟨rfl, rfl, rfl⟩ := trodAll_nil r4
 obtain rfl : args = #[v0, v1, v2, v3, v4] := by cases args; simp_all
 obtain ⟨rfl, rfl⟩ := trodVars_none hV
 clear hA0 hval0 hargs
 have hbk := of_decide_eq_true hk
 simp only [List.append_nil, Rows.uptoBulkAll] at hbk
 simp only [List.append_nil] at hW'
 have hlt0 : ∀ x ∈ p0, x.block < W.heap.size := fun x hx => hW'.lt x (by simp [hx])
 obtain ⟨A0, n0, c0, l0, rfl, nc0, nb0, kn0, raw0⟩ := open_cons h0 (hval 0 _ v0 rfl rfl) hlt0 (by omega)
 have hlt1 : ∀ x ∈ p1, x.block < W.heap.size := fun x hx => hW'.lt x (by simp [hx])
 obtain ⟨x1, l1, rfl, raw1, v641⟩ := open_conV h1 (hval 1 _ v1 rfl rfl) hlt1 (by omega)
 have hlt2 : ∀ x ∈ p2, x.block < W.heap.size := fun x hx => hW'.lt x (by simp [hx])
 obtain ⟨A2, n2, c2, l2, rfl, nc2, nb2, nm2, rd2⟩ := open_nums h2 (hval 2 _ v2 rfl rfl) hlt2 (by omega)
 have hlt3 : ∀ x ∈ p3, x.block < W.heap.size := fun x hx => hW'.lt x (by simp [hx])
 obtain ⟨N3, rfl, rg3⟩ := open_intV h3 (hval 3 _ v3 rfl rfl)
 have hlt4 : ∀ x ∈ p4, x.block < W.heap.size := fun x hx => hW'.lt x (by simp [hx])
 obtain ⟨N4, rfl, rg4⟩ := open_intV h4 (hval 4 _ v4 rfl rfl)
 have hargs_cons : ∀ (W' : World) (v : Value) (d : DataW H) (ps : List MemPlace), DataW.Trod enc Tryz.prog W 0 (fun _ => true) true 22 v d ps → (∀ x ∈ ps, x.block < W.heap.size) → Below W.heap.size W W' → DataW.Trod enc Tryz.prog W' 0 (fun b => decide (b < W.heap.size)) true 22 v d ps :=
  fun W' v d ps h hl hn => Below.trod Tryz.laidOut (by kernel_rfl) (of_decide_eq_true (by kernel_rfl)) h hn hl
 have hargs_conv : ∀ (W' : World) (v : Value) (d : DataW H) (ps : List MemPlace), DataW.Trod enc Tryz.prog W 0 (fun _ => true) true 28 v d ps → (∀ x ∈ ps, x.block < W.heap.size) → Below W.heap.size W W' → DataW.Trod enc Tryz.prog W' 0 (fun b => decide (b < W.heap.size)) true 28 v d ps :=
  fun W' v d ps h hl hn => Below.trod Tryz.laidOut (by kernel_rfl) (of_decide_eq_true (by kernel_rfl)) h hn hl
 have hargs_int : ∀ (W' : World) (v : Value) (d : DataW H) (ps : List MemPlace), DataW.Trod enc Tryz.prog W 0 (fun _ => true) true 3 v d ps → (∀ x ∈ ps, x.block < W.heap.size) → Below W.heap.size W W' → DataW.Trod enc Tryz.prog W' 0 (fun b => decide (b < W.heap.size)) true 3 v d ps :=
  fun W' v d ps h hl hn => Below.trod Tryz.laidOut (by kernel_rfl) (of_decide_eq_true (by kernel_rfl)) h hn hl
 have hargs_rats : ∀ (W' : World) (v : Value) (d : DataW H) (ps : List MemPlace), DataW.Trod enc Tryz.prog W 0 (fun _ => true) true 29 v d ps → (∀ x ∈ ps, x.block < W.heap.size) → Below W.heap.size W W' → DataW.Trod enc Tryz.prog W' 0 (fun b => decide (b < W.heap.size)) true 29 v d ps :=
  fun W' v d ps h hl hn => Below.trod Tryz.laidOut (by kernel_rfl) (of_decide_eq_true (by kernel_rfl)) h hn hl
 refine (GaussTells_any A0 A2 n0 c0 n2 c2 x1 l1 N3 N4 l0 l2 W kn0 raw0 nb0 raw1 v641 nm2 rd2 nb2).mono fun e W' ⟨he, hnx⟩ => ?_
 subst he
 refine ⟨_, rfl, _, _, _, [], _, [], hW', ?_, (trodAll_cons_mk (hargs_cons _ _ _ _ h0 hlt0 hnx) (trodAll_cons_mk (hargs_conv _ _ _ _ h1 hlt1 hnx) (trodAll_cons_mk (hargs_rats _ _ _ _ h2 hlt2 hnx) (trodAll_cons_mk (hargs_int _ _ _ _ h3 hlt3 hnx) (trodAll_cons_mk (hargs_int _ _ _ _ h4 hlt4 hnx) trodAll_mk0))))), rfl, hnx.frame _, fun h => by cases h⟩
 exact trodAll_cons_mk (shut_bool Tryz.underlying4 true) trodAll_mk0
set_option maxRecDepth 100000 in
theorem gaussTells_lifted (os : Os) (started : os.Started) (H : Type) (enc : TypeId × Value → H) (F : Stop.Interp) :
  ReturnsInHanded {} Tryz.checked os 3 .any ((Rows.OpenSpec.upto Rows.gaussTellsSpec).pre6 enc Tryz.prog Tryz.f3 Rows.gaussTellsUptoRow.domain false) (((Rows.OpenSpec.upto Rows.gaussTellsSpec).at F).post enc Tryz.prog Tryz.f3 false true false false) := by
 refine returnsInHanded_of_cond (C := Tryz.checked) (s := Rows.OpenSpec.upto Rows.gaussTellsSpec) (k := Rows.uptoSmall) rfl Tryz.own started (by kernel_rfl) Tryz.func3
  (OpenSpec.witness (enc := enc) (C := Tryz.checked) (s := Rows.OpenSpec.upto Rows.gaussTellsSpec) (k := Rows.uptoSmall) rfl false ⟨#[], #[.slice none 0 0, .agg #[.int .i64 0, .slice none 0 0, .bool false, .slice none 0 0, .slice none 0 0], .slice none 0 0, .int .i64 0, .int .i64 0], []⟩ 8 (by kernel_rfl) (by kernel_rfl) (by kernel_rfl)
   (x := ([.nil, .agg [.lit (.int .i64 0), .nil, .agg [.lit (.bool false), .nil, .nil]], .nil, .lit (.int .i64 0), .lit (.int .i64 0)], [], [])) (by kernel_rfl) rfl (by kernel_rfl)) ?_
 intro W base args ds gs before hval hW _ hk _
 exact gaussTells_contract H enc W base args ds gs before hval hW hk
theorem gaussTells_row : Rows.GaussTellsUptoSaid :=
 OpenClaim.holds_of_cond 3 Tryz.f3 rfl rfl rfl rfl rfl rfl rfl ⟨rfl, rfl, rfl, rfl, rfl⟩ rfl rfl rfl rfl rfl (by kernel_rfl) Tryz.func3 (by kernel_rfl)
  (of_decide_eq_true (by kernel_rfl)) (by unfold Func.isWrapper; first | (rw [if_pos (by decide +kernel)]; kernel_rfl) | (rw [if_neg (by decide +kernel)]; exact ⟨rfl, rfl⟩))
  (fun os started H enc _ F => gaussTells_lifted os started H enc F)
end Go.Proofs.YtgffkaconhonlaaGreat
