/-
  A law's argument opened: an expression that is read as data.
-/
import Derived.Test.YtdpbceipiappjaaGreatDoorRatOpen
import Derived.Test.YtdpbceipiappjaaGreatDoorMEa
namespace Go.Proofs.YtdpbceipiappjaaGreatDoor
set_option maxRecDepth 20000
open Go.Deep Go.Joins Go.ChangeShapes Go.WideShapes Go.ChangeAt Go.RowKit

theorem Tryz.cells27 : Tryz.prog.cellsOf 27 = 6 := by kernel_rfl
theorem Tryz.bytes27 : Tryz.prog.bytesOf 27 = 104 := by kernel_rfl
theorem Tryz.cells3 : Tryz.prog.cellsOf 3 = 1 := by kernel_rfl
theorem Tryz.cells9 : Tryz.prog.cellsOf 9 = 1 := by kernel_rfl
theorem Tryz.cells25 : Tryz.prog.cellsOf 25 = 1 := by kernel_rfl
theorem Tryz.cells22b : Tryz.prog.cellsOf 22 = 1 := by kernel_rfl
theorem Tryz.cells4b : Tryz.prog.cellsOf 4 = 1 := by kernel_rfl
/-- A number's rows as they come in. -/
def RawR (w : World) (y : Rv) : Prop := y.n ≤ y.c ∧ y.m ≤ y.d ∧ y.n ≤ 100000000000000 ∧ y.m ≤ 100000000000000 ∧ ∃ a b, Row w 0 y.A y.n a ∧ Row w 0 y.B y.m b
/-- A tree as it comes in, so deep at most. -/
def Raw (w : World) : Nat → Ev → Prop
  | 0, _ => False
  | k + 1, v => (-9223372036854775808 ≤ v.k ∧ v.k ≤ 9223372036854775807) ∧ RawR w v.r ∧ v.s.size ≤ 1000000000000000 ∧ v.n ≤ v.c ∧ v.n ≤ 10000000000000 ∧
      ∀ i, i < v.n → ∃ b off x, v.K = some ⟨b, off, none⟩ ∧ b < w.heap.size ∧ At6 w b (off + i * 6) x ∧ Raw w k x
theorem raw_up {w : World} : ∀ (k : Nat) (v : Ev), Raw w k v → Raw w (k + 1) v := by
  intro k
  induction k with
  | zero => exact fun v h => h.elim
  | succ k ih =>
    intro v ⟨h1, h2, h3, h4, h5, h6⟩
    refine ⟨h1, h2, h3, h4, h5, fun i hi => ?_⟩
    obtain ⟨b, off, x, e, hb, hx, hr⟩ := h6 i hi
    exact ⟨b, off, x, e, hb, hx, ih x hr⟩
theorem weightsAll_in {H : Type} {P : Program} {e : TypeId} {d : DataW H} {k : Nat} (hk : k ∈ d.weights P e) : ∀ (l : List (DataW H)), d ∈ l → k ∈ DataW.weightsAll P e l
  | [], h => by cases h
  | x :: l, h => by
    rw [DataW.weightsAll, List.mem_append]
    rcases List.mem_cons.1 h with rfl | h
    · exact .inl hk
    · exact .inr (weightsAll_in hk l h)
theorem at6_of {w : World} {base b off i : Nat} {v : Ev} (h : w.cells? base ((⟨b, off, none⟩ : Addr).add (i * 6)) 6 = some [.int .i64 v.k, .bool v.r.s, .slice v.r.A v.r.n v.r.c, .slice v.r.B v.r.m v.r.d, .string v.s, .slice v.K v.n v.c]) : At6 w b (off + i * 6) v := by
  obtain ⟨_, _, hc⟩ := World.cells?_some h
  have g : ∀ j, j < 6 → w.cell? ⟨b, off + i * 6 + j, none⟩ = [.int .i64 v.k, .bool v.r.s, .slice v.r.A v.r.n v.r.c, .slice v.r.B v.r.m v.r.d, .string v.s, .slice v.K v.n v.c][j]? := fun j hj => by
    have := hc j hj
    rw [add_plain, add_plain] at this
    exact this
  exact ⟨g 0 (by omega), g 1 (by omega), g 2 (by omega), g 3 (by omega), g 4 (by omega), g 5 (by omega)⟩
set_option maxHeartbeats 1600000 in
theorem open_expr_cs {H : Type} {enc : TypeId × Value → H} {W : World} : ∀ (fuel : Nat) (cs : List Value) (x : DataW H × List MemPlace), DataW.trod enc Tryz.prog W 0 (fun _ => true) true fuel 27 cs = some x →
    (∀ y ∈ x.2, y.block < W.heap.size) → (∀ n ∈ x.1.weights Tryz.prog 27, n ≤ reachBytes) → ∃ v : Ev, cs = [.int .i64 v.k, .bool v.r.s, .slice v.r.A v.r.n v.r.c, .slice v.r.B v.r.m v.r.d, .string v.s, .slice v.K v.n v.c] ∧ Raw W fuel v := by
  intro fuel
  induction fuel using Nat.strongRecOn with
  | _ fuel ih =>
    intro cs x h hlt hsz
    obtain ⟨xs, n, rfl, rfl, hl, hlen, hf⟩ := DataW.trod_struct Tryz.underlying27 h
    rw [Tryz.cells27] at hl
    match cs, hl, xs, hlen with
    | [c0, c1, c2, c3, c4, c5], _, [y0, y1, y2, y3], _ =>
      have h0 : DataW.trod enc Tryz.prog W 0 (fun _ => true) true n 3 (([c0, c1, c2, c3, c4, c5].drop 0).take (Tryz.prog.cellsOf 3)) = some y0 := hf 0 _ rfl
      rw [Tryz.cells3] at h0
      change DataW.trod enc Tryz.prog W 0 (fun _ => true) true n 3 [c0] = some y0 at h0
      have h1 : DataW.trod enc Tryz.prog W 0 (fun _ => true) true n 24 (([c0, c1, c2, c3, c4, c5].drop 1).take (Tryz.prog.cellsOf 24)) = some y1 := hf 1 _ rfl
      rw [Tryz.cells24] at h1
      change DataW.trod enc Tryz.prog W 0 (fun _ => true) true n 24 [c1, c2, c3] = some y1 at h1
      have h2 : DataW.trod enc Tryz.prog W 0 (fun _ => true) true n 9 (([c0, c1, c2, c3, c4, c5].drop 4).take (Tryz.prog.cellsOf 9)) = some y2 := hf 2 _ rfl
      rw [Tryz.cells9] at h2
      change DataW.trod enc Tryz.prog W 0 (fun _ => true) true n 9 [c4] = some y2 at h2
      have h3 : DataW.trod enc Tryz.prog W 0 (fun _ => true) true n 25 (([c0, c1, c2, c3, c4, c5].drop 5).take (Tryz.prog.cellsOf 25)) = some y3 := hf 3 _ rfl
      rw [Tryz.cells25] at h3
      change DataW.trod enc Tryz.prog W 0 (fun _ => true) true n 25 [c5] = some y3 at h3
      have hw : ∀ k, k ∈ y1.1.weights Tryz.prog 24 ∨ k ∈ y2.1.weights Tryz.prog 9 ∨ k ∈ y3.1.weights Tryz.prog 25 → k ≤ reachBytes := by
        intro k hk
        refine hsz k ?_
        simp only [DataW.weights, Tryz.underlying27, DataW.weightsEach, List.map, List.mem_append]
        rcases hk with h | h | h
        · exact .inr (.inl h)
        · exact .inr (.inr (.inl h))
        · exact .inr (.inr (.inr (.inl h)))
      have hp : ∀ y, y ∈ y1.2 ∨ y ∈ y3.2 → y.block < W.heap.size := by
        intro y hy
        refine hlt y ?_
        simp only [List.flatMap_cons, List.flatMap_nil, List.mem_append]
        rcases hy with h | h
        · exact .inr (.inl h)
        · exact .inr (.inr (.inr (.inl h)))
      obtain ⟨i, e0, _, wi⟩ := DataW.trod_int Tryz.underlying3 h0
      have wi' : -9223372036854775808 ≤ i ∧ i ≤ 9223372036854775807 := by
        have e1 : IntKind.i64.min = -9223372036854775808 := rfl
        have e2 : IntKind.i64.max = 9223372036854775807 := rfl
        simp only [Lit.wf, Bool.and_eq_true, decide_eq_true_eq] at wi
        omega
      obtain ⟨z0, z1, z2, m, ez, _, g0, g1, g2⟩ := trod_struct3 Tryz.underlying24 h1
      replace g0 : DataW.trod enc Tryz.prog W 0 (fun _ => true) true m 4 (([c1, c2, c3].drop 0).take (Tryz.prog.cellsOf 4)) = some z0 := g0
      rw [Tryz.cells4b] at g0
      change DataW.trod enc Tryz.prog W 0 (fun _ => true) true m 4 [c1] = some z0 at g0
      replace g1 : DataW.trod enc Tryz.prog W 0 (fun _ => true) true m 22 (([c1, c2, c3].drop 1).take (Tryz.prog.cellsOf 22)) = some z1 := g1
      rw [Tryz.cells22b] at g1
      change DataW.trod enc Tryz.prog W 0 (fun _ => true) true m 22 [c2] = some z1 at g1
      replace g2 : DataW.trod enc Tryz.prog W 0 (fun _ => true) true m 22 (([c1, c2, c3].drop 2).take (Tryz.prog.cellsOf 22)) = some z2 := g2
      rw [Tryz.cells22b] at g2
      change DataW.trod enc Tryz.prog W 0 (fun _ => true) true m 22 [c3] = some z2 at g2
      obtain ⟨s, es, _⟩ := DataW.trod_bool Tryz.underlying4 g0
      have hwr : ∀ k, k ∈ z1.1.weights Tryz.prog 22 ∨ k ∈ z2.1.weights Tryz.prog 22 → k ≤ reachBytes := by
        intro k hk
        refine hw k (.inl ?_)
        rw [ez]
        simp only [DataW.weights, Tryz.underlying24, DataW.weightsEach, List.map, List.mem_append]
        rcases hk with h | h
        · exact .inr (.inl h)
        · exact .inr (.inr (.inl h))
      obtain ⟨A, n1, k1, a, eA, l1, l2, ra⟩ := open_limbs g1 (fun x hx => hp x (.inl (by rw [ez]; simp [hx]))) (fun k hk => hwr k (.inl hk))
      obtain ⟨B, m1, k2, b, eB, l3, l4, rb⟩ := open_limbs g2 (fun x hx => hp x (.inl (by rw [ez]; simp [hx]))) (fun k hk => hwr k (.inr hk))
      obtain ⟨st, e4, ey2, _⟩ := DataW.trod_string Tryz.underlying9 h2
      have hst : st.size ≤ 1000000000000000 := by
        have h9 := hw st.data.toList.length (.inr (.inl (by rw [ey2]; simp [DataW.weights])))
        have h2 : reachBytes < 2 ^ 47 := reachBytes_lt
        rw [data_size] at h9
        omega
      simp only [List.cons.injEq, and_true] at e0 es eA eB e4
      have hraw : RawR W ⟨s, A, n1, k1, B, m1, k2⟩ := ⟨l1, l3, by show n1 ≤ _; omega, by show m1 ≤ _; omega, a, b, ra, rb⟩
      rcases DataW.trod_slice Tryz.underlying25 h3 with ⟨e5, _⟩ | ⟨ad, len, cap, elems, rest, n2, en, e5, ey3, _, hlc, hcm, hel, hget, hsp, _⟩
      · simp only [List.cons.injEq, and_true] at e5
        exact ⟨⟨i, ⟨s, A, n1, k1, B, m1, k2⟩, st, none, 0, 0⟩, by rw [e0, es, eA, eB, e4, e5], wi', hraw, hst, Nat.le_refl _, Nat.zero_le _, fun i hi => absurd hi (Nat.not_lt_zero _)⟩
      · simp only [List.cons.injEq, and_true] at e5
        have hlen9 : len ≤ 10000000000000 := by
          have h9 := hw ((elems.length + rest.length) * 104) (.inr (.inr (by rw [ey3]; simp [DataW.weights, Tryz.underlying25, Tryz.bytes27])))
          have h2 : reachBytes < 2 ^ 47 := reachBytes_lt
          omega
        refine ⟨⟨i, ⟨s, A, n1, k1, B, m1, k2⟩, st, some ad, len, cap⟩, by rw [e0, es, eA, eB, e4, e5], wi', hraw, hst, hlc, hlen9, ?_⟩
        intro j hj
        have hj' : j < len := hj
        have hg := hget j hj'
        rw [Tryz.cells27] at hg
        have hjl : j < elems.length := by rw [hel]; exact hj'
        rw [List.getElem?_eq_getElem hjl] at hg
        obtain ⟨cs', hcs, htr⟩ := Option.bind_eq_some_iff.1 hg
        have hmem : elems[j] ∈ elems := List.getElem_mem hjl
        obtain ⟨v, rfl, hv⟩ := ih n2 (by omega) cs' elems[j] htr
          (fun y hy => hp y (.inr (by rw [ey3]; simp only [List.mem_append, List.mem_flatMap]; exact .inr ⟨elems[j], by simp, hy⟩)))
          (fun k hk => hw k (.inr (.inr (by
            rw [ey3]
            simp only [DataW.weights, Tryz.underlying25, List.mem_cons, List.mem_append]
            exact .inr (.inl (weightsAll_in hk _ (List.mem_map.2 ⟨elems[j], hmem, rfl⟩)))))))
        obtain ⟨bk, off, spot⟩ := ad
        have hg0 := hget 0 (by omega)
        rw [Tryz.cells27, List.getElem?_eq_getElem (by omega)] at hg0
        obtain ⟨cs0, hcs0, htr0⟩ := Option.bind_eq_some_iff.1 hg0
        obtain ⟨v0, rfl, _⟩ := ih n2 (by omega) cs0 elems[0] htr0
          (fun y hy => hp y (.inr (by rw [ey3]; simp only [List.mem_append, List.mem_flatMap]; exact .inr ⟨elems[0], by simp, hy⟩)))
          (fun k hk => hw k (.inr (.inr (by
            rw [ey3]
            simp only [DataW.weights, Tryz.underlying25, List.mem_cons, List.mem_append]
            exact .inr (.inl (weightsAll_in hk _ (List.mem_map.2 ⟨elems[0], by simp, rfl⟩)))))))
        obtain ⟨_, _, hcell⟩ := World.cells?_some hcs0
        have hc0 := hcell 0 (by omega)
        have hspot : spot = none := by simpa [Addr.add] using World.cell?_spot hc0
        subst hspot
        have hblk : bk < W.heap.size := by
          have := World.block_lt_of_cell? W _ hc0
          rw [add_plain, add_plain] at this
          exact this
        have hnn : n = n2 + 1 := en
        subst hnn
        exact ⟨bk, off, v, rfl, hblk, at6_of hcs, raw_up _ _ hv⟩
theorem open_expr {H : Type} {enc : TypeId × Value → H} {W : World} {v : Value} {d : DataW H} {p : List MemPlace} (h0 : DataW.Trod enc Tryz.prog W 0 (fun _ => true) true 27 v d p)
    {base : Nat} (hval : Value.okWide Tryz.prog W .any base 27 v) (hlt : ∀ x ∈ p, x.block < W.heap.size) (hsz : ∀ n ∈ d.weights Tryz.prog 27, n ≤ reachBytes) :
    ∃ (u : Ev) (k : Nat), v = .agg #[.int .i64 u.k, .bool u.r.s, .slice u.r.A u.r.n u.r.c, .slice u.r.B u.r.m u.r.d, .string u.s, .slice u.K u.n u.c] ∧ Raw W k u := by
  obtain ⟨cs, rfl, hsz6⟩ := okWide_struct Tryz.underlying27 hval
  obtain ⟨fuel, hf⟩ := h0
  obtain ⟨u, hu, hr⟩ := open_expr_cs fuel _ (d, p) hf hlt hsz
  refine ⟨u, fuel, ?_, hr⟩
  have hc : cs.toList = [.int .i64 u.k, .bool u.r.s, .slice u.r.A u.r.n u.r.c, .slice u.r.B u.r.m u.r.d, .string u.s, .slice u.K u.n u.c] := by simpa [Value.cells] using hu
  rw [← Array.toArray_toList (xs := cs), hc]
end Go.Proofs.YtdpbceipiappjaaGreatDoor
