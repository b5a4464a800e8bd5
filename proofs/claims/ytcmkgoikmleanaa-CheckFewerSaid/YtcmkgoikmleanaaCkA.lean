/-
  Expressions that come in, opened as trees; a row of names that comes in.
-/
import Derived.Test.YtcmkgoikmleanaaCkM
import Derived.ProofKit
import Derived.WalkKit
import Derived.WalkSpells
import Derived.WalkLawsBesides
import Derived.Lib.Hide
import Derived.Lib.SmallJoins
import Derived.SizedLaws
import Derived.SliceStrings
import Derived.Deep.Draws
import Derived.Maps.OwnSet
import Derived.Maps.AppendAt
namespace Go.Proofs.Ytcmkgoikmleanaa
set_option maxRecDepth 20000
open Go.Deep Go.Joins Go.ChangeShapes Go.WideShapes Go.ChangeAt Go.RowKit

theorem Try.own : ownKnob Try.prog.godebug = none := by kernel_rfl
theorem Try.laidOut : laidOutB Try.prog = true := by kernel_rfl
theorem Try.cells24 : Try.prog.cellsOf 24 = 3 := by kernel_rfl
theorem Try.bytes25 : Try.prog.bytesOf 25 = 4 := by kernel_rfl
theorem Try.cells25 : Try.prog.cellsOf 25 = 1 := by kernel_rfl
theorem Try.cells36 : Try.prog.cellsOf 36 = 6 := by kernel_rfl
theorem Try.bytes36 : Try.prog.bytesOf 36 = 104 := by kernel_rfl
theorem Try.cells3 : Try.prog.cellsOf 3 = 1 := by kernel_rfl
theorem Try.cells9 : Try.prog.cellsOf 9 = 1 := by kernel_rfl
theorem Try.bytes9 : Try.prog.bytesOf 9 = 16 := by kernel_rfl
theorem Try.cells34 : Try.prog.cellsOf 34 = 1 := by kernel_rfl
theorem Try.cells22b : Try.prog.cellsOf 22 = 1 := by kernel_rfl
theorem Try.cells4b : Try.prog.cellsOf 4 = 1 := by kernel_rfl

/-- What a rational's struct holds. -/
structure Rv where
  s : Bool
  A : Option Addr
  n : Nat
  c : Nat
  B : Option Addr
  m : Nat
  d : Nat
/-- What an expression's struct holds. -/
structure Ev where
  k : Int
  r : Rv
  s : ByteArray
  K : Option Addr
  n : Nat
  c : Nat
/-- A block that holds a struct of six cells. -/
def C6 (w : World) (b : Nat) (x0 x1 x2 x3 x4 x5 : Value) : Prop := w.heap[b]? = some (.cells #[x0, x1, x2, x3, x4, x5] 36 (0, 0))
section
variable {w w' : World} {b : Nat} {x0 x1 x2 x3 x4 x5 : Value}
theorem C6.lt (h : C6 w b x0 x1 x2 x3 x4 x5) : b < w.heap.size := by
  rcases Nat.lt_or_ge b w.heap.size with h1 | h1
  · exact h1
  · have : w.heap[b]? = none := Array.getElem?_eq_none h1
    rw [C6, this] at h; cases h
theorem C6.below (h : C6 w b x0 x1 x2 x3 x4 x5) (hb : Below w.heap.size w w') : C6 w' b x0 x1 x2 x3 x4 x5 := (hb.block b h.lt).trans h
theorem C6.new (w : World) (x0 x1 x2 x3 x4 x5 : Value) : C6 (w.alloc (.cells #[x0, x1, x2, x3, x4, x5] 36)) w.heap.size x0 x1 x2 x3 x4 x5 := heap_alloc_new w _
theorem C6.facts (h : C6 w b x0 x1 x2 x3 x4 x5) :
    w.cell? ⟨b, 0, none⟩ = some x0 ∧ w.cell? ⟨b, 1, none⟩ = some x1 ∧ w.cell? ⟨b, 2, none⟩ = some x2 ∧ w.cell? ⟨b, 3, none⟩ = some x3 ∧ w.cell? ⟨b, 4, none⟩ = some x4 ∧ w.cell? ⟨b, 5, none⟩ = some x5 := by
  have h' : w.heap[b]? = some (.cells #[x0, x1, x2, x3, x4, x5] 36 (0, 0)) := h
  refine ⟨?_, ?_, ?_, ?_, ?_, ?_⟩ <;> simp [World.cell?, h']
end
/-- Six cells of a row of structs. -/
def At6 (w : World) (b0 o : Nat) (x : Ev) : Prop :=
  w.cell? ⟨b0, o, none⟩ = some (.int .i64 x.k) ∧ w.cell? ⟨b0, o + 1, none⟩ = some (.bool x.r.s) ∧ w.cell? ⟨b0, o + 2, none⟩ = some (.slice x.r.A x.r.n x.r.c) ∧ w.cell? ⟨b0, o + 3, none⟩ = some (.slice x.r.B x.r.m x.r.d) ∧
  w.cell? ⟨b0, o + 4, none⟩ = some (.string x.s) ∧ w.cell? ⟨b0, o + 5, none⟩ = some (.slice x.K x.n x.c)
theorem At6.keep {w w' : World} {b0 o : Nat} {x : Ev} (h : At6 w b0 o x) (hk : w'.heap[b0]? = w.heap[b0]?) : At6 w' b0 o x := by
  obtain ⟨h0, h1, h2, h3, h4, h5⟩ := h
  have e : ∀ j, w'.cell? ⟨b0, j, none⟩ = w.cell? ⟨b0, j, none⟩ := fun j => World.cell?_of_block hk
  exact ⟨(e _).trans h0, (e _).trans h1, (e _).trans h2, (e _).trans h3, (e _).trans h4, (e _).trans h5⟩
/-- A struct as it comes in reads as a tree. -/
def RdT (w : World) : Tr → Ev → Prop
  | .leaf, _ => False
  | .node k s n f, v => v.k = k ∧ v.s = s ∧ v.n = n ∧ (-9223372036854775808 ≤ k ∧ k ≤ 9223372036854775807) ∧ s.size ≤ 1000000000000000 ∧ n ≤ v.c ∧ n ≤ 10000000000000 ∧ v.r.n ≤ 100000000000000 ∧ v.r.m ≤ 100000000000000 ∧
      ∀ i, i < n → ∃ b off x, v.K = some ⟨b, off, none⟩ ∧ b < w.heap.size ∧ At6 w b (off + i * 6) x ∧ RdT w (f i) x
theorem RdT.below {w w' : World} (hb : Below w.heap.size w w') : ∀ (t : Tr) (v : Ev), RdT w t v → RdT w' t v := by
  intro t
  induction t with
  | leaf => exact fun v h => h.elim
  | node k s n f ih =>
    rintro v ⟨h1, h2, h3, h4, h5, h6, h7, h8, h9, h10⟩
    refine ⟨h1, h2, h3, h4, h5, h6, h7, h8, h9, fun i hi => ?_⟩
    obtain ⟨b, off, x, e1, e2, e3, e4⟩ := h10 i hi
    exact ⟨b, off, x, e1, Nat.lt_of_lt_of_le e2 hb.size, e3.keep (hb.block b e2), ih i x e4⟩
theorem weightsAll_in {H : Type} {P : Program} {e : TypeId} {d : DataW H} {k : Nat} (hk : k ∈ d.weights P e) : ∀ (l : List (DataW H)), d ∈ l → k ∈ DataW.weightsAll P e l
  | [], h => by cases h
  | x :: l, h => by
    rw [DataW.weightsAll, List.mem_append]
    rcases List.mem_cons.1 h with rfl | h
    · exact .inl hk
    · exact .inr (weightsAll_in hk l h)
theorem at6_of {w : World} {base b off i : Nat} {v : Ev} (h : w.cells? base ((⟨b, off, none⟩ : Addr).add (i * 6)) 6 = some [.int .i64 v.k, .bool v.r.s, .slice v.r.A v.r.n v.r.c, .slice v.r.B v.r.m v.r.d, .string v.s, .slice v.K v.n v.c]) : At6 w b (off + i * 6) v := by
  obtain ⟨_, _, hc⟩ := World.cells?_some h
  have g : ∀ j, j < 6 → w.cell? ⟨b, off + i * 6 + j, none⟩ = [.int .i64 v.k, .bool v.r.s, .slice v.r.A v.r.n v.r.c, .slice v.r.B v.r.m v.r.d, .string v.s, .slice v.K v.n v.c][j]? := fun j hj => by
    have := hc j hj
    rw [add_plain, add_plain] at this
    exact this
  exact ⟨g 0 (by omega), g 1 (by omega), g 2 (by omega), g 3 (by omega), g 4 (by omega), g 5 (by omega)⟩
theorem data_size (s : ByteArray) : s.data.toList.length = s.size := by rw [Array.length_toList]; rfl
theorem open_limbs {H : Type} {enc : TypeId × Value → H} {W : World} {v : Value} {y : DataW H × List MemPlace} {fuel : Nat} (hf : DataW.trod enc Try.prog W 0 (fun _ => true) true fuel 22 [v] = some y)
    (hsz : ∀ n ∈ y.1.weights Try.prog 22, n ≤ reachBytes) :
    ∃ A n c, v = .slice A n c ∧ n ≤ 100000000000000 := by
  rcases open_ints Try.underlying22 Try.underlying25 Try.cells25 hf with ⟨hcs, hx⟩ | ⟨a, len', cap', zs, hcs, _, hl, hm, hz, hx, hcell, hwz⟩
  · simp at hcs
    subst hcs
    exact ⟨none, 0, 0, rfl, by omega⟩
  · simp at hcs
    subst hcs
    subst hx
    simp only [if_true] at hz
    have hcap : cap' ≤ 100000000000000 := by
      have h1 := hsz ((lits (H := H) IntKind.u32 (List.take len' zs)).length * 4 + (lits (H := H) IntKind.u32 (List.drop len' zs)).length * 4) (by
        simp [DataW.weights, Try.underlying22, Try.bytes25, Nat.add_mul])
      have h2 : reachBytes < 2 ^ 47 := reachBytes_lt
      simp [lits] at h1
      omega
    exact ⟨some a, len', cap', rfl, by omega⟩
/-- The tree of kids that each read as one. -/
theorem kids_of {w : World} {n : Nat} {K : Option Addr} (h : ∀ i, i < n → ∃ b off x, K = some ⟨b, off, none⟩ ∧ b < w.heap.size ∧ At6 w b (off + i * 6) x ∧ ∃ t, RdT w t x) :
    ∃ f : Nat → Tr, ∀ i, i < n → ∃ b off x, K = some ⟨b, off, none⟩ ∧ b < w.heap.size ∧ At6 w b (off + i * 6) x ∧ RdT w (f i) x := by
  refine ⟨fun i => if hi : i < n then Classical.choose (Classical.choose_spec (Classical.choose_spec (Classical.choose_spec (h i hi)))).2.2.2 else .leaf, fun i hi => ?_⟩
  have g := Classical.choose_spec (Classical.choose_spec (Classical.choose_spec (h i hi)))
  refine ⟨_, _, _, g.1, g.2.1, g.2.2.1, ?_⟩
  simp only [hi, dite_true]
  exact Classical.choose_spec g.2.2.2
set_option maxHeartbeats 1600000 in
theorem open_expr_cs {H : Type} {enc : TypeId × Value → H} {W : World} : ∀ (fuel : Nat) (cs : List Value) (x : DataW H × List MemPlace), DataW.trod enc Try.prog W 0 (fun _ => true) true fuel 36 cs = some x →
    (∀ y ∈ x.2, y.block < W.heap.size) → (∀ n ∈ x.1.weights Try.prog 36, n ≤ reachBytes) → ∃ (v : Ev) (t : Tr), cs = [.int .i64 v.k, .bool v.r.s, .slice v.r.A v.r.n v.r.c, .slice v.r.B v.r.m v.r.d, .string v.s, .slice v.K v.n v.c] ∧ RdT W t v := by
  intro fuel
  induction fuel using Nat.strongRecOn with
  | _ fuel ih =>
    intro cs x h hlt hsz
    obtain ⟨xs, n, rfl, rfl, hl, hlen, hf⟩ := DataW.trod_struct Try.underlying36 h
    rw [Try.cells36] at hl
    match cs, hl, xs, hlen with
    | [c0, c1, c2, c3, c4, c5], _, [y0, y1, y2, y3], _ =>
      have h0 : DataW.trod enc Try.prog W 0 (fun _ => true) true n 3 (([c0, c1, c2, c3, c4, c5].drop 0).take (Try.prog.cellsOf 3)) = some y0 := hf 0 _ rfl
      rw [Try.cells3] at h0
      change DataW.trod enc Try.prog W 0 (fun _ => true) true n 3 [c0] = some y0 at h0
      have h1 : DataW.trod enc Try.prog W 0 (fun _ => true) true n 24 (([c0, c1, c2, c3, c4, c5].drop 1).take (Try.prog.cellsOf 24)) = some y1 := hf 1 _ rfl
      rw [Try.cells24] at h1
      change DataW.trod enc Try.prog W 0 (fun _ => true) true n 24 [c1, c2, c3] = some y1 at h1
      have h2 : DataW.trod enc Try.prog W 0 (fun _ => true) true n 9 (([c0, c1, c2, c3, c4, c5].drop 4).take (Try.prog.cellsOf 9)) = some y2 := hf 2 _ rfl
      rw [Try.cells9] at h2
      change DataW.trod enc Try.prog W 0 (fun _ => true) true n 9 [c4] = some y2 at h2
      have h3 : DataW.trod enc Try.prog W 0 (fun _ => true) true n 34 (([c0, c1, c2, c3, c4, c5].drop 5).take (Try.prog.cellsOf 34)) = some y3 := hf 3 _ rfl
      rw [Try.cells34] at h3
      change DataW.trod enc Try.prog W 0 (fun _ => true) true n 34 [c5] = some y3 at h3
      have hw : ∀ k, k ∈ y1.1.weights Try.prog 24 ∨ k ∈ y2.1.weights Try.prog 9 ∨ k ∈ y3.1.weights Try.prog 34 → k ≤ reachBytes := by
        intro k hk
        refine hsz k ?_
        simp only [DataW.weights, Try.underlying36, DataW.weightsEach, List.map, List.mem_append]
        rcases hk with h | h | h
        · exact .inr (.inl h)
        · exact .inr (.inr (.inl h))
        · exact .inr (.inr (.inr (.inl h)))
      have hp : ∀ y, y ∈ y1.2 ∨ y ∈ y3.2 → y.block < W.heap.size := by
        intro y hy
        refine hlt y ?_
        simp only [List.flatMap_cons, List.flatMap_nil, List.mem_append]
        rcases hy with h | h
        · exact .inr (.inl h)
        · exact .inr (.inr (.inr (.inl h)))
      obtain ⟨i, e0, _, wi⟩ := DataW.trod_int Try.underlying3 h0
      have wi' : -9223372036854775808 ≤ i ∧ i ≤ 9223372036854775807 := by
        have e1 : IntKind.i64.min = -9223372036854775808 := rfl
        have e2 : IntKind.i64.max = 9223372036854775807 := rfl
        simp only [Lit.wf, Bool.and_eq_true, decide_eq_true_eq] at wi
        omega
      obtain ⟨z0, z1, z2, m, ez, _, g0, g1, g2⟩ := trod_struct3 Try.underlying24 h1
      replace g0 : DataW.trod enc Try.prog W 0 (fun _ => true) true m 4 (([c1, c2, c3].drop 0).take (Try.prog.cellsOf 4)) = some z0 := g0
      rw [Try.cells4b] at g0
      change DataW.trod enc Try.prog W 0 (fun _ => true) true m 4 [c1] = some z0 at g0
      replace g1 : DataW.trod enc Try.prog W 0 (fun _ => true) true m 22 (([c1, c2, c3].drop 1).take (Try.prog.cellsOf 22)) = some z1 := g1
      rw [Try.cells22b] at g1
      change DataW.trod enc Try.prog W 0 (fun _ => true) true m 22 [c2] = some z1 at g1
      replace g2 : DataW.trod enc Try.prog W 0 (fun _ => true) true m 22 (([c1, c2, c3].drop 2).take (Try.prog.cellsOf 22)) = some z2 := g2
      rw [Try.cells22b] at g2
      change DataW.trod enc Try.prog W 0 (fun _ => true) true m 22 [c3] = some z2 at g2
      obtain ⟨s, es, _⟩ := DataW.trod_bool Try.underlying4 g0
      have hwr : ∀ k, k ∈ z1.1.weights Try.prog 22 ∨ k ∈ z2.1.weights Try.prog 22 → k ≤ reachBytes := by
        intro k hk
        refine hw k (.inl ?_)
        rw [ez]
        simp only [DataW.weights, Try.underlying24, DataW.weightsEach, List.map, List.mem_append]
        rcases hk with h | h
        · exact .inr (.inl h)
        · exact .inr (.inr (.inl h))
      obtain ⟨A, n1, k1, eA, l2⟩ := open_limbs g1 (fun k hk => hwr k (.inl hk))
      obtain ⟨B, m1, k2, eB, l4⟩ := open_limbs g2 (fun k hk => hwr k (.inr hk))
      obtain ⟨st, e4, ey2, _⟩ := DataW.trod_string Try.underlying9 h2
      have hst : st.size ≤ 1000000000000000 := by
        have h9 := hw st.data.toList.length (.inr (.inl (by rw [ey2]; simp [DataW.weights])))
        have h2 : reachBytes < 2 ^ 47 := reachBytes_lt
        rw [data_size] at h9
        omega
      simp only [List.cons.injEq, and_true] at e0 es eA eB e4
      rcases DataW.trod_slice Try.underlying34 h3 with ⟨e5, _⟩ | ⟨ad, len, cap, elems, rest, n2, en, e5, ey3, _, hlc, hcm, hel, hget, hsp, _⟩
      · simp only [List.cons.injEq, and_true] at e5
        exact ⟨⟨i, ⟨s, A, n1, k1, B, m1, k2⟩, st, none, 0, 0⟩, .node i st 0 (fun _ => .leaf), by rw [e0, es, eA, eB, e4, e5], rfl, rfl, rfl, wi', hst, Nat.le_refl _, Nat.zero_le _, l2, l4, fun i hi => absurd hi (Nat.not_lt_zero _)⟩
      · simp only [List.cons.injEq, and_true] at e5
        have hlen9 : len ≤ 10000000000000 := by
          have h9 := hw ((elems.length + rest.length) * 104) (.inr (.inr (by rw [ey3]; simp [DataW.weights, Try.underlying34, Try.bytes36])))
          have h2 : reachBytes < 2 ^ 47 := reachBytes_lt
          omega
        have hkids : ∀ j, j < len → ∃ b off x, some ad = some (⟨b, off, none⟩ : Addr) ∧ b < W.heap.size ∧ At6 W b (off + j * 6) x ∧ ∃ t, RdT W t x := by
          intro j hj
          have hj' : j < len := hj
          have hg := hget j hj'
          rw [Try.cells36] at hg
          have hjl : j < elems.length := by rw [hel]; exact hj'
          rw [List.getElem?_eq_getElem hjl] at hg
          obtain ⟨cs', hcs, htr⟩ := Option.bind_eq_some_iff.1 hg
          have hmem : elems[j] ∈ elems := List.getElem_mem hjl
          obtain ⟨v, tv, rfl, hv⟩ := ih n2 (by omega) cs' elems[j] htr
            (fun y hy => hp y (.inr (by rw [ey3]; simp only [List.mem_append, List.mem_flatMap]; exact .inr ⟨elems[j], by simp, hy⟩)))
            (fun k hk => hw k (.inr (.inr (by
              rw [ey3]
              simp only [DataW.weights, Try.underlying34, List.mem_cons, List.mem_append]
              exact .inr (.inl (weightsAll_in hk _ (List.mem_map.2 ⟨elems[j], hmem, rfl⟩)))))))
          obtain ⟨bk, off, spot⟩ := ad
          have hg0 := hget 0 (by omega)
          rw [Try.cells36, List.getElem?_eq_getElem (by omega)] at hg0
          obtain ⟨cs0, hcs0, htr0⟩ := Option.bind_eq_some_iff.1 hg0
          obtain ⟨v0, _, rfl, _⟩ := ih n2 (by omega) cs0 elems[0] htr0
            (fun y hy => hp y (.inr (by rw [ey3]; simp only [List.mem_append, List.mem_flatMap]; exact .inr ⟨elems[0], by simp, hy⟩)))
            (fun k hk => hw k (.inr (.inr (by
              rw [ey3]
              simp only [DataW.weights, Try.underlying34, List.mem_cons, List.mem_append]
              exact .inr (.inl (weightsAll_in hk _ (List.mem_map.2 ⟨elems[0], by simp, rfl⟩)))))))
          obtain ⟨_, _, hcell⟩ := World.cells?_some hcs0
          have hc0 := hcell 0 (by omega)
          have hspot : spot = none := by simpa [Addr.add] using World.cell?_spot hc0
          subst hspot
          have hblk : bk < W.heap.size := by
            have := World.block_lt_of_cell? W _ hc0
            rw [add_plain, add_plain] at this
            exact this
          exact ⟨bk, off, v, rfl, hblk, at6_of hcs, tv, hv⟩
        obtain ⟨f, hf2⟩ := kids_of hkids
        exact ⟨⟨i, ⟨s, A, n1, k1, B, m1, k2⟩, st, some ad, len, cap⟩, .node i st len f, by rw [e0, es, eA, eB, e4, e5], rfl, rfl, rfl, wi', hst, hlc, hlen9, l2, l4, hf2⟩
theorem open_expr {H : Type} {enc : TypeId × Value → H} {W : World} {v : Value} {d : DataW H} {p : List MemPlace} (h0 : DataW.Trod enc Try.prog W 0 (fun _ => true) true 36 v d p)
    {base : Nat} (hval : Value.okWide Try.prog W .any base 36 v) (hlt : ∀ x ∈ p, x.block < W.heap.size) (hsz : ∀ n ∈ d.weights Try.prog 36, n ≤ reachBytes) :
    ∃ (u : Ev) (t : Tr), v = .agg #[.int .i64 u.k, .bool u.r.s, .slice u.r.A u.r.n u.r.c, .slice u.r.B u.r.m u.r.d, .string u.s, .slice u.K u.n u.c] ∧ RdT W t u := by
  obtain ⟨cs, rfl, hsz6⟩ := okWide_struct Try.underlying36 hval
  obtain ⟨fuel, hf⟩ := h0
  obtain ⟨u, t, hu, hr⟩ := open_expr_cs fuel _ (d, p) hf hlt hsz
  refine ⟨u, t, ?_, hr⟩
  have hc : cs.toList = [.int .i64 u.k, .bool u.r.s, .slice u.r.A u.r.n u.r.c, .slice u.r.B u.r.m u.r.d, .string u.s, .slice u.K u.n u.c] := by simpa [Value.cells] using hu
  rw [← Array.toArray_toList (xs := cs), hc]
end Go.Proofs.Ytcmkgoikmleanaa
