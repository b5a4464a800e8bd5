/-
  A law's argument opened: what names mean, read as data.
-/
import Derived.Test.YtdpbceipiappjaaGreatDoorAffNames
import Derived.Test.YtdpbceipiappjaaGreatDoorOpenT
namespace Go.Proofs.YtdpbceipiappjaaGreatDoor
set_option maxRecDepth 20000
open Go.Deep Go.Joins Go.ChangeShapes Go.WideShapes Go.ChangeAt Go.RowKit Go.WideMaps

theorem Tryz.cells31 : Tryz.prog.cellsOf 31 = 3 := by kernel_rfl
theorem Tryz.bytes24 : Tryz.prog.bytesOf 24 = 56 := by kernel_rfl
theorem Tryz.bytes9 : Tryz.prog.bytesOf 9 = 16 := by kernel_rfl
theorem open_strs {H : Type} {enc : TypeId × Value → H} {W : World} {v : Value} {y : DataW H × List MemPlace} {fuel : Nat} (hf : DataW.trod enc Tryz.prog W 0 (fun _ => true) true fuel 28 [v] = some y)
    (hlt : ∀ x ∈ y.2, x.block < W.heap.size) (hsz : ∀ n ∈ y.1.weights Tryz.prog 28, n ≤ reachBytes) :
    ∃ A n c ss, v = .slice A n c ∧ n ≤ 100000000000000 ∧ Strs W A n ss := by
  rcases open_strings Tryz.underlying28 Tryz.underlying9 Tryz.cells9 hf with ⟨hcs, hx⟩ | ⟨a, len, cap, ss, hcs, _, hl, hm, hz, hx, hcell, hsize⟩
  · simp at hcs
    subst hcs
    exact ⟨none, 0, 0, [], rfl, by omega, rfl, (fun s hs => by cases hs), fun h => absurd h (by omega)⟩
  · simp at hcs
    subst hcs
    subst hx
    simp only [if_true] at hz
    have h2 : reachBytes < 2 ^ 47 := reachBytes_lt
    have hcap : cap ≤ 100000000000000 := by
      have h1 := hsz ((strs (H := H) (List.take len ss)).length * 16 + (strs (H := H) (List.drop len ss)).length * 16) (by
        simp [DataW.weights, Tryz.underlying28, Tryz.bytes9, Nat.add_mul])
      simp [strs] at h1
      omega
    have hlen : (ss.take len).length = len := by simp; omega
    refine ⟨some a, len, cap, ss.take len, rfl, by omega, hlen, fun s hs => ?_, fun hn => ?_⟩
    · have h9 := hsz s.data.toList.length (by
        simp only [DataW.weights, Tryz.underlying28, List.mem_cons, List.mem_append]
        refine .inr (.inl (weightsAll_in (d := .lit (.string s.data.toList)) ?_ _ ?_))
        · simp [DataW.weights]
        · exact List.mem_map.2 ⟨_, hs, rfl⟩)
      rw [data_size] at h9
      omega
    · obtain ⟨b, off, spot⟩ := a
      have hspot : spot = none := by simpa [Addr.add] using World.cell?_spot (hcell 0 (by omega))
      subst hspot
      have hbW : b < W.heap.size := hlt (.cell b off) (MemPlace.mem_row.2 ⟨0, by omega, by simp⟩)
      refine ⟨b, off, rfl, hbW, fun j s hj => ?_⟩
      have hj2 : j < len := by have := (List.getElem?_eq_some_iff.1 hj).1; omega
      rw [← add_plain, hcell j (by omega)]
      rw [List.getElem?_take, if_pos hj2] at hj
      simp [List.getD, hj]
theorem open_rat_cs {H : Type} {enc : TypeId × Value → H} {W : World} {cs : List Value} {y : DataW H × List MemPlace} {fuel : Nat} (hf : DataW.trod enc Tryz.prog W 0 (fun _ => true) true fuel 24 cs = some y)
    (hlt : ∀ x ∈ y.2, x.block < W.heap.size) (hsz : ∀ n ∈ y.1.weights Tryz.prog 24, n ≤ reachBytes) :
    ∃ r : Rv, cs = [.bool r.s, .slice r.A r.n r.c, .slice r.B r.m r.d] ∧ RdR W r ∧ r.n ≤ 100000000000000 ∧ r.m ≤ 100000000000000 := by
  have hl : cs.length = 3 := by
    obtain ⟨_, _, _, _, _, hl, _⟩ := trod_struct3 Tryz.underlying24 hf
    rw [hl]; exact Tryz.cells24
  match cs, hl with
  | [c1, c2, c3], _ =>
    obtain ⟨z0, z1, z2, m, ez, _, g0, g1, g2⟩ := trod_struct3 Tryz.underlying24 hf
    replace g0 : DataW.trod enc Tryz.prog W 0 (fun _ => true) true m 4 (([c1, c2, c3].drop 0).take (Tryz.prog.cellsOf 4)) = some z0 := g0
    rw [Tryz.cells4b] at g0
    change DataW.trod enc Tryz.prog W 0 (fun _ => true) true m 4 [c1] = some z0 at g0
    replace g1 : DataW.trod enc Tryz.prog W 0 (fun _ => true) true m 22 (([c1, c2, c3].drop 1).take (Tryz.prog.cellsOf 22)) = some z1 := g1
    rw [Tryz.cells22b] at g1
    change DataW.trod enc Tryz.prog W 0 (fun _ => true) true m 22 [c2] = some z1 at g1
    replace g2 : DataW.trod enc Tryz.prog W 0 (fun _ => true) true m 22 (([c1, c2, c3].drop 2).take (Tryz.prog.cellsOf 22)) = some z2 := g2
    rw [Tryz.cells22b] at g2
    change DataW.trod enc Tryz.prog W 0 (fun _ => true) true m 22 [c3] = some z2 at g2
    obtain ⟨s, es, _⟩ := DataW.trod_bool Tryz.underlying4 g0
    have hwr : ∀ k, k ∈ z1.1.weights Tryz.prog 22 ∨ k ∈ z2.1.weights Tryz.prog 22 → k ≤ reachBytes := by
      intro k hk
      refine hsz k ?_
      rw [ez]
      simp only [DataW.weights, Tryz.underlying24, DataW.weightsEach, List.map, List.mem_append]
      rcases hk with h | h
      · exact .inr (.inl h)
      · exact .inr (.inr (.inl h))
    obtain ⟨A, n1, k1, a, eA, l1, l2, ra⟩ := open_limbs g1 (fun x hx => hlt x (by rw [ez]; simp [hx])) (fun k hk => hwr k (.inl hk))
    obtain ⟨B, m1, k2, b, eB, l3, l4, rb⟩ := open_limbs g2 (fun x hx => hlt x (by rw [ez]; simp [hx])) (fun k hk => hwr k (.inr hk))
    simp only [List.cons.injEq, and_true] at es eA eB
    exact ⟨⟨s, A, n1, k1, B, m1, k2⟩, by rw [es, eA, eB], ⟨l1, l3, a, b, ra, rb⟩, by show n1 ≤ _; omega, by show m1 ≤ _; omega⟩
theorem list_ofR {P : Nat → Rv → Prop} : ∀ (n : Nat), (∀ j, j < n → ∃ x, P j x) → ∃ l : List Rv, l.length = n ∧ ∀ j x, l[j]? = some x → P j x
  | 0, _ => ⟨[], rfl, fun j x h => by simp at h⟩
  | n + 1, h => by
    obtain ⟨l, hl, hP⟩ := list_ofR n fun j hj => h j (by omega)
    obtain ⟨x, hx⟩ := h n (by omega)
    refine ⟨l ++ [x], by simp [hl], fun j y hy => ?_⟩
    by_cases hj : j < n
    · exact hP j y (by rwa [List.getElem?_append_left (by omega)] at hy)
    · have hj2 : j < n + 1 := by have := (List.getElem?_eq_some_iff.1 hy).1; simp [hl] at this; omega
      have : j = n := by omega
      subst this
      rw [List.getElem?_append_right (by omega), hl, Nat.sub_self] at hy
      simp at hy
      subst hy
      exact hx
theorem at3_of {w : World} {base b off i : Nat} {r : Rv} (h : w.cells? base ((⟨b, off, none⟩ : Addr).add (i * 3)) 3 = some [.bool r.s, .slice r.A r.n r.c, .slice r.B r.m r.d]) : At3 w b (off + i * 3) r := by
  obtain ⟨_, _, hc⟩ := World.cells?_some h
  have g : ∀ j, j < 3 → w.cell? ⟨b, off + i * 3 + j, none⟩ = ([.bool r.s, .slice r.A r.n r.c, .slice r.B r.m r.d] : List Value)[j]? := fun j hj => by
    have := hc j hj
    rw [add_plain, add_plain] at this
    exact this
  exact ⟨g 0 (by omega), g 1 (by omega), g 2 (by omega)⟩
theorem open_nums {H : Type} {enc : TypeId × Value → H} {W : World} {v : Value} {y : DataW H × List MemPlace} {fuel : Nat} (hf : DataW.trod enc Tryz.prog W 0 (fun _ => true) true fuel 29 [v] = some y)
    (hlt : ∀ x ∈ y.2, x.block < W.heap.size) (hsz : ∀ n ∈ y.1.weights Tryz.prog 29, n ≤ reachBytes) :
    ∃ (A : Option Addr) (n c : Nat) (l : List Rv), v = .slice A n c ∧ n ≤ 100000000000000 ∧ Nums W A n l ∧ ∀ x ∈ l, RdR W x ∧ x.n ≤ 100000000000000 ∧ x.m ≤ 100000000000000 := by
  rcases DataW.trod_slice Tryz.underlying29 hf with ⟨e5, _⟩ | ⟨ad, len, cap, elems, rest, n2, en, e5, ey3, _, hlc, hcm, hel, hget, hsp, _⟩
  · simp only [List.cons.injEq, and_true] at e5
    subst e5
    exact ⟨none, 0, 0, [], rfl, by omega, ⟨rfl, fun h => absurd h (by omega)⟩, fun x hx => by cases hx⟩
  · simp only [List.cons.injEq, and_true] at e5
    subst e5
    subst ey3
    have hlen : len ≤ 100000000000000 := by
      have h9 := hsz ((elems.length + rest.length) * 56) (by simp [DataW.weights, Tryz.underlying29, Tryz.bytes24])
      have h2 : reachBytes < 2 ^ 47 := reachBytes_lt
      omega
    have hopen : ∀ j (hj : j < elems.length) (cs : List Value), DataW.trod enc Tryz.prog W 0 (fun _ => true) true n2 24 cs = some elems[j] →
        ∃ r : Rv, cs = [.bool r.s, .slice r.A r.n r.c, .slice r.B r.m r.d] ∧ RdR W r ∧ r.n ≤ 100000000000000 ∧ r.m ≤ 100000000000000 := fun j hj cs htr =>
      open_rat_cs htr (fun y hy => hlt y (by simp only [List.mem_append, List.mem_flatMap]; exact .inr ⟨elems[j], .inl (List.getElem_mem hj), hy⟩))
        (fun k hk => hsz k (by
          simp only [DataW.weights, Tryz.underlying29, List.mem_cons, List.mem_append]
          exact .inr (.inl (weightsAll_in hk _ (List.mem_map.2 ⟨elems[j], List.getElem_mem hj, rfl⟩)))))
    have hone : ∀ j, j < len → ∃ x : Rv, (∃ b off, ad = ⟨b, off, none⟩ ∧ b < W.heap.size ∧ At3 W b (off + j * 3) x) ∧ RdR W x ∧ x.n ≤ 100000000000000 ∧ x.m ≤ 100000000000000 := by
      intro j hj
      have hg := hget j hj
      rw [Tryz.cells24] at hg
      have hjl : j < elems.length := by omega
      rw [List.getElem?_eq_getElem hjl] at hg
      obtain ⟨cs', hcs, htr⟩ := Option.bind_eq_some_iff.1 hg
      obtain ⟨t, rfl, ht, h8, h9⟩ := hopen j hjl cs' htr
      obtain ⟨bk, off, spot⟩ := ad
      obtain ⟨_, _, hcell⟩ := World.cells?_some hcs
      have hc0 := hcell 0 (by omega)
      have hspot : spot = none := by
        have hg0 := hget 0 (by omega)
        rw [Tryz.cells24, List.getElem?_eq_getElem (by omega)] at hg0
        obtain ⟨cs0, hcs0, htr0⟩ := Option.bind_eq_some_iff.1 hg0
        obtain ⟨t0, rfl, _⟩ := hopen 0 (by omega) cs0 htr0
        obtain ⟨_, _, hcell0⟩ := World.cells?_some hcs0
        have h7 : W.cell? (((⟨bk, off, spot⟩ : Addr).add (0 * 3)).add 0) = some (.bool t0.s) := hcell0 0 (by omega)
        simpa [Addr.add] using World.cell?_spot h7
      subst hspot
      have hblk : bk < W.heap.size := by
        have h7 : W.cell? (((⟨bk, off, none⟩ : Addr).add (j * 3)).add 0) = some (.bool t.s) := hc0
        have := World.block_lt_of_cell? W _ h7
        rw [add_plain, add_plain] at this
        exact this
      exact ⟨t, ⟨bk, off, rfl, hblk, at3_of hcs⟩, ht, h8, h9⟩
    obtain ⟨l, hll, hP⟩ := list_ofR len hone
    refine ⟨some ad, len, cap, l, rfl, hlen, ⟨hll, fun h9 => ?_⟩, fun x hx => ?_⟩
    · have h8 : 0 < l.length := by omega
      obtain ⟨b, off, e, hb9, _⟩ := (hP 0 l[0] (List.getElem?_eq_getElem h8)).1
      refine ⟨b, off, by rw [e], hb9, fun j x hx => ?_⟩
      obtain ⟨b', off', e', _, h4⟩ := (hP j x hx).1
      rw [e] at e'
      injection e' with e1 e2 _
      subst e1 e2
      exact h4
    · obtain ⟨j, hj, e⟩ := List.getElem_of_mem hx
      exact (hP j x (by rw [List.getElem?_eq_getElem hj, e])).2
theorem open_env {H : Type} {enc : TypeId × Value → H} {W : World} {v : Value} {d : DataW H} {p : List MemPlace} (h0 : DataW.Trod enc Tryz.prog W 0 (fun _ => true) true 31 v d p)
    {base : Nat} (hval : Value.okWide Tryz.prog W .any base 31 v) (hlt : ∀ x ∈ p, x.block < W.heap.size) (hsz : ∀ n ∈ d.weights Tryz.prog 31, n ≤ reachBytes) :
    ∃ (x : Nv) (ss ns : List ByteArray) (l : List Rv), v = .agg #[.slice x.VA x.vn x.vc, .slice x.NA x.nn x.nc, .slice x.LA x.ln x.lc] ∧ Strs W x.VA x.vn ss ∧ Strs W x.NA x.nn ns ∧ Nums W x.LA x.ln l ∧ (∀ y ∈ l, RdR W y ∧ y.n ≤ 100000000000000 ∧ y.m ≤ 100000000000000) ∧
      x.vn ≤ 100000000000000 ∧ x.nn ≤ 100000000000000 ∧ x.ln ≤ 100000000000000 := by
  obtain ⟨v0, v1, v2, y0, y1, y2, n, rfl, rfl, rfl, t0, t1, t2⟩ := open_agg3 Tryz.underlying31 (by kernel_rfl) Tryz.cells31 hval h0
  have hw : ∀ k, k ∈ y0.1.weights Tryz.prog 28 ∨ k ∈ y1.1.weights Tryz.prog 28 ∨ k ∈ y2.1.weights Tryz.prog 29 → k ≤ reachBytes := by
    intro k hk
    refine hsz k ?_
    simp only [DataW.weights, Tryz.underlying31, DataW.weightsEach, List.map, List.mem_append]
    rcases hk with h | h | h
    · exact .inl h
    · exact .inr (.inl h)
    · exact .inr (.inr (.inl h))
  obtain ⟨A, n1, c1, ss, rfl, g1, s1⟩ := open_strs t0 (fun x hx => hlt x (by simp [hx])) (fun k hk => hw k (.inl hk))
  obtain ⟨B, n2, c2, ns, rfl, g2, s2⟩ := open_strs t1 (fun x hx => hlt x (by simp [hx])) (fun k hk => hw k (.inr (.inl hk)))
  obtain ⟨C, n3, c3, l, rfl, g3, s3, s4⟩ := open_nums t2 (fun x hx => hlt x (by simp [hx])) (fun k hk => hw k (.inr (.inr hk)))
  exact ⟨⟨A, n1, c1, B, n2, c2, C, n3, c3⟩, ss, ns, l, rfl, s1, s2, s3, s4, g1, g2, g3⟩
end Go.Proofs.YtdpbceipiappjaaGreatDoor
