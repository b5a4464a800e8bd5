/-
  A law's argument opened: forms and rows of bools, of a bulk that is bounded.
-/
import Derived.Test.YtaifgehmlfjljaaPgD
import Derived.Test.YtaifgehmlfjljaaOpenS
namespace Go.Proofs.Ytaifgehmlfjljaa
set_option maxRecDepth 20000
open Go.Deep Go.Joins Go.ChangeShapes Go.WideShapes Go.ChangeAt Go.RowKit Go.WideMaps Go.ChangeMaps

theorem Try.cells4 : Try.prog.cellsOf 4 = 1 := by kernel_rfl
theorem Try.cells66 : Try.prog.cellsOf 66 = 2 := by kernel_rfl
theorem Try.cells68 : Try.prog.cellsOf 68 = 2 := by kernel_rfl
theorem Try.cells44 : Try.prog.cellsOf 44 = 6 := by kernel_rfl
theorem page_cs {H : Type} {enc : TypeId × Value → H} {W : World} {cs : List Value} {y : DataW H × List MemPlace} {fuel : Nat} (hf : DataW.trod enc Try.prog W 0 (fun _ => true) true fuel 66 cs = some y)
    (hb : Rows.uptoBulk y.1 ≤ 1048576) : ∃ (p : ByteArray) (c1 : Value), cs = [.string p, c1] ∧ p.size ≤ 1048576 ∧ (∃ q : ByteArray, c1 = .string q ∧ q.size ≤ 1048576) := by
  obtain ⟨z0, z1, m, ez, hl, g0, g1⟩ := trod_struct2 Try.underlying66 hf
  rw [Try.cells66] at hl
  match cs, hl with
  | [c0, c1], _ =>
    replace g0 : DataW.trod enc Try.prog W 0 (fun _ => true) true m 9 (([c0, c1].drop 0).take (Try.prog.cellsOf 9)) = some z0 := g0
    rw [Try.cells9] at g0
    change DataW.trod enc Try.prog W 0 (fun _ => true) true m 9 [c0] = some z0 at g0
    replace g1 : DataW.trod enc Try.prog W 0 (fun _ => true) true m 9 (([c0, c1].drop 1).take (Try.prog.cellsOf 9)) = some z1 := g1
    rw [Try.cells9] at g1
    change DataW.trod enc Try.prog W 0 (fun _ => true) true m 9 [c1] = some z1 at g1
    obtain ⟨p, e0, x0, _⟩ := DataW.trod_string Try.underlying9 g0
    subst x0
    obtain ⟨q, e1, x1, _⟩ := DataW.trod_string Try.underlying9 g1
    subst x1
    rw [ez] at hb
    simp only [Rows.uptoBulk, Rows.uptoBulkAll, data_size] at hb
    simp only [List.cons.injEq, and_true] at e0 e1
    exact ⟨p, c1, by rw [e0], by omega, q, e1, by omega⟩
theorem sw_cs {H : Type} {enc : TypeId × Value → H} {W : World} {cs : List Value} {y : DataW H × List MemPlace} {fuel : Nat} (hf : DataW.trod enc Try.prog W 0 (fun _ => true) true fuel 68 cs = some y)
    (hb : Rows.uptoBulk y.1 ≤ 1048576) : ∃ (p : ByteArray) (c1 : Value), cs = [.string p, c1] ∧ p.size ≤ 1048576 ∧ (∃ q : Bool, c1 = .bool q) := by
  obtain ⟨z0, z1, m, ez, hl, g0, g1⟩ := trod_struct2 Try.underlying68 hf
  rw [Try.cells68] at hl
  match cs, hl with
  | [c0, c1], _ =>
    replace g0 : DataW.trod enc Try.prog W 0 (fun _ => true) true m 9 (([c0, c1].drop 0).take (Try.prog.cellsOf 9)) = some z0 := g0
    rw [Try.cells9] at g0
    change DataW.trod enc Try.prog W 0 (fun _ => true) true m 9 [c0] = some z0 at g0
    replace g1 : DataW.trod enc Try.prog W 0 (fun _ => true) true m 4 (([c0, c1].drop 1).take (Try.prog.cellsOf 4)) = some z1 := g1
    rw [Try.cells4] at g1
    change DataW.trod enc Try.prog W 0 (fun _ => true) true m 4 [c1] = some z1 at g1
    obtain ⟨p, e0, x0, _⟩ := DataW.trod_string Try.underlying9 g0
    subst x0
    obtain ⟨q, e1, x1⟩ := DataW.trod_bool Try.underlying4 g1
    subst x1
    rw [ez] at hb
    simp only [Rows.uptoBulk, Rows.uptoBulkAll, data_size] at hb
    simp only [List.cons.injEq, and_true] at e0 e1
    exact ⟨p, c1, by rw [e0], by omega, q, e1⟩
theorem page_row {H : Type} {enc : TypeId × Value → H} {W : World} {v : Value} {y : DataW H × List MemPlace} {fuel : Nat} (hf : DataW.trod enc Try.prog W 0 (fun _ => true) true fuel 39 [v] = some y)
    (hlt : ∀ x ∈ y.2, x.block < W.heap.size) (hb : Rows.uptoBulk y.1 ≤ 1048576) : ∃ (A : Option Addr) (n c : Nat) (l : List (ByteArray × ByteArray)), v = .slice A n c ∧ n ≤ 1048576 ∧ Pgs W A n l := by
  rcases DataW.trod_slice Try.underlying39 hf with ⟨e5, _⟩ | ⟨ad, len, cap, elems, rest, n2, en, e5, ey3, _, hlc, hcm, hel, hget, hsp, _⟩
  · simp only [List.cons.injEq, and_true] at e5
    subst e5
    exact ⟨none, 0, 0, [], rfl, by omega, ⟨rfl, (fun x hx => by cases hx), fun h => absurd h (by omega)⟩⟩
  · simp only [List.cons.injEq, and_true] at e5
    subst e5
    subst ey3
    simp only [Rows.uptoBulk] at hb
    have hbl := bulk_len (elems.map (·.1))
    rw [List.length_map] at hbl
    have hlen : len ≤ 1048576 := by omega
    have hone : ∀ j, j < len → ∃ (p : ByteArray) (c1 : Value), (∃ b off, ad = ⟨b, off, none⟩ ∧ b < W.heap.size ∧ W.cell? ⟨b, off + j * 2, none⟩ = some (.string p) ∧ W.cell? ⟨b, off + j * 2 + 1, none⟩ = some c1) ∧ p.size ≤ 1048576 ∧ (∃ q : ByteArray, c1 = .string q ∧ q.size ≤ 1048576) := by
      intro j hj
      have hg := hget j hj
      rw [Try.cells66] at hg
      have hjl : j < elems.length := by omega
      rw [List.getElem?_eq_getElem hjl] at hg
      obtain ⟨cs', hcs, htr⟩ := Option.bind_eq_some_iff.1 hg
      obtain ⟨p, c1, rfl, hp, hq⟩ := page_cs htr (by have := bulk_mem (l := elems.map (·.1)) (List.mem_map.2 ⟨_, List.getElem_mem hjl, rfl⟩); omega)
      obtain ⟨_, _, hcell⟩ := World.cells?_some hcs
      have h0 : W.cell? ((ad.add (j * 2)).add 0) = some (.string p) := hcell 0 (by omega)
      have h1 : W.cell? ((ad.add (j * 2)).add 1) = some c1 := hcell 1 (by omega)
      obtain ⟨bk, off, spot⟩ := ad
      have hspot : spot = none := by
        have hg0 := hget 0 (by omega)
        rw [Try.cells66, List.getElem?_eq_getElem (by omega)] at hg0
        obtain ⟨cs0, hcs0, htr0⟩ := Option.bind_eq_some_iff.1 hg0
        obtain ⟨p0, c10, rfl, _⟩ := page_cs htr0 (by have := bulk_mem (l := elems.map (·.1)) (List.mem_map.2 ⟨_, List.getElem_mem (show 0 < elems.length by omega), rfl⟩); omega)
        obtain ⟨_, _, hcell0⟩ := World.cells?_some hcs0
        have h7 : W.cell? (((⟨bk, off, spot⟩ : Addr).add (0 * 2)).add 0) = some (.string p0) := hcell0 0 (by omega)
        simpa [Addr.add] using World.cell?_spot h7
      subst hspot
      rw [add_plain, add_plain] at h0 h1
      have hblk : bk < W.heap.size := World.block_lt_of_cell? W _ h0
      exact ⟨p, c1, ⟨bk, off, rfl, hblk, h0, h1⟩, hp, hq⟩
    have hlist : ∀ n, n ≤ len → ∃ l : List (ByteArray × ByteArray), l.length = n ∧ (∀ x ∈ l, x.1.size ≤ 2000000 ∧ x.2.size ≤ 2000000) ∧ ∀ (j : Nat) x, l[j]? = some x → ∃ b off, ad = ⟨b, off, none⟩ ∧ b < W.heap.size ∧ W.cell? ⟨b, off + j * 2, none⟩ = some (.string x.1) ∧ W.cell? ⟨b, off + j * 2 + 1, none⟩ = some (.string x.2) := by
      intro n
      induction n with
      | zero => exact fun _ => ⟨[], rfl, (fun x hx => by cases hx), fun j x h => by simp at h⟩
      | succ n ih =>
        intro hn
        obtain ⟨l, hl, hs, hP⟩ := ih (by omega)
        obtain ⟨p, c1, ⟨b, off, e, h1, h2, h3⟩, hp, q, rfl, hq⟩ := hone n (by omega)
        refine ⟨l ++ [(p, q)], by simp [hl], fun x hx => ?_, fun j x hj => ?_⟩
        · rcases List.mem_append.1 hx with hx | hx
          · exact hs x hx
          · simp at hx; subst hx; exact ⟨by show p.size ≤ _; omega, by show q.size ≤ _; omega⟩
        · by_cases hjn : j < n
          · rw [List.getElem?_append_left (by omega)] at hj
            exact hP j x hj
          · have hj2 := (List.getElem?_eq_some_iff.1 hj).1
            simp [hl] at hj2
            obtain rfl : j = n := by omega
            rw [List.getElem?_append_right (by omega), hl, Nat.sub_self] at hj
            simp at hj; subst hj
            exact ⟨b, off, e, h1, h2, h3⟩
    obtain ⟨l, hl, hs, hP⟩ := hlist len (Nat.le_refl _)
    refine ⟨some ad, len, cap, l, rfl, hlen, hl, hs, fun h0 => ?_⟩
    obtain ⟨p, c1, ⟨b, off, e, h1, _⟩, _⟩ := hone 0 h0
    refine ⟨b, off, by rw [e], h1, fun j x hx => ?_⟩
    obtain ⟨b', off', e', _, h2⟩ := hP j x hx
    rw [e] at e'
    injection e' with e1 e2 _
    subst e1 e2
    exact h2
theorem sw_row {H : Type} {enc : TypeId × Value → H} {W : World} {v : Value} {y : DataW H × List MemPlace} {fuel : Nat} (hf : DataW.trod enc Try.prog W 0 (fun _ => true) true fuel 37 [v] = some y)
    (hlt : ∀ x ∈ y.2, x.block < W.heap.size) (hb : Rows.uptoBulk y.1 ≤ 1048576) : ∃ (A : Option Addr) (n c : Nat) (l : List (SwI)), v = .slice A n c ∧ n ≤ 1048576 ∧ Sws W A n l := by
  rcases DataW.trod_slice Try.underlying37 hf with ⟨e5, _⟩ | ⟨ad, len, cap, elems, rest, n2, en, e5, ey3, _, hlc, hcm, hel, hget, hsp, _⟩
  · simp only [List.cons.injEq, and_true] at e5
    subst e5
    exact ⟨none, 0, 0, [], rfl, by omega, ⟨rfl, fun h => absurd h (by omega)⟩⟩
  · simp only [List.cons.injEq, and_true] at e5
    subst e5
    subst ey3
    simp only [Rows.uptoBulk] at hb
    have hbl := bulk_len (elems.map (·.1))
    rw [List.length_map] at hbl
    have hlen : len ≤ 1048576 := by omega
    have hone : ∀ j, j < len → ∃ (p : ByteArray) (c1 : Value), (∃ b off, ad = ⟨b, off, none⟩ ∧ b < W.heap.size ∧ W.cell? ⟨b, off + j * 2, none⟩ = some (.string p) ∧ W.cell? ⟨b, off + j * 2 + 1, none⟩ = some c1) ∧ p.size ≤ 1048576 ∧ (∃ q : Bool, c1 = .bool q) := by
      intro j hj
      have hg := hget j hj
      rw [Try.cells68] at hg
      have hjl : j < elems.length := by omega
      rw [List.getElem?_eq_getElem hjl] at hg
      obtain ⟨cs', hcs, htr⟩ := Option.bind_eq_some_iff.1 hg
      obtain ⟨p, c1, rfl, hp, hq⟩ := sw_cs htr (by have := bulk_mem (l := elems.map (·.1)) (List.mem_map.2 ⟨_, List.getElem_mem hjl, rfl⟩); omega)
      obtain ⟨_, _, hcell⟩ := World.cells?_some hcs
      have h0 : W.cell? ((ad.add (j * 2)).add 0) = some (.string p) := hcell 0 (by omega)
      have h1 : W.cell? ((ad.add (j * 2)).add 1) = some c1 := hcell 1 (by omega)
      obtain ⟨bk, off, spot⟩ := ad
      have hspot : spot = none := by
        have hg0 := hget 0 (by omega)
        rw [Try.cells68, List.getElem?_eq_getElem (by omega)] at hg0
        obtain ⟨cs0, hcs0, htr0⟩ := Option.bind_eq_some_iff.1 hg0
        obtain ⟨p0, c10, rfl, _⟩ := sw_cs htr0 (by have := bulk_mem (l := elems.map (·.1)) (List.mem_map.2 ⟨_, List.getElem_mem (show 0 < elems.length by omega), rfl⟩); omega)
        obtain ⟨_, _, hcell0⟩ := World.cells?_some hcs0
        have h7 : W.cell? (((⟨bk, off, spot⟩ : Addr).add (0 * 2)).add 0) = some (.string p0) := hcell0 0 (by omega)
        simpa [Addr.add] using World.cell?_spot h7
      subst hspot
      rw [add_plain, add_plain] at h0 h1
      have hblk : bk < W.heap.size := World.block_lt_of_cell? W _ h0
      exact ⟨p, c1, ⟨bk, off, rfl, hblk, h0, h1⟩, hp, hq⟩
    have hlist : ∀ n, n ≤ len → ∃ l : List SwI, l.length = n ∧ ∀ (j : Nat) x, l[j]? = some x → x.1.1 = j ∧ ∃ b off, ad = ⟨b, off, none⟩ ∧ b < W.heap.size ∧ W.cell? ⟨b, off + j * 2, none⟩ = some (.string x.1.2.1) ∧ W.cell? ⟨b, off + j * 2 + 1, none⟩ = some (.bool x.1.2.2) := by
      intro n
      induction n with
      | zero => exact fun _ => ⟨[], rfl, fun j x h => by simp at h⟩
      | succ n ih =>
        intro hn
        obtain ⟨l, hl, hP⟩ := ih (by omega)
        obtain ⟨p, c1, ⟨b, off, e, h1, h2, h3⟩, hp, q, rfl⟩ := hone n (by omega)
        refine ⟨l ++ [⟨(n, p, q), by show n ≤ _; omega, by show p.size ≤ _; omega⟩], by simp [hl], fun j x hj => ?_⟩
        by_cases hjn : j < n
        · rw [List.getElem?_append_left (by omega)] at hj
          exact hP j x hj
        · have hj2 := (List.getElem?_eq_some_iff.1 hj).1
          simp [hl] at hj2
          obtain rfl : j = n := by omega
          rw [List.getElem?_append_right (by omega), hl, Nat.sub_self] at hj
          simp at hj; subst hj
          exact ⟨rfl, b, off, e, h1, h2, h3⟩
    obtain ⟨l, hl, hP⟩ := hlist len (Nat.le_refl _)
    refine ⟨some ad, len, cap, l, rfl, hlen, hl, fun h0 => ?_⟩
    obtain ⟨p, c1, ⟨b, off, e, h1, _⟩, _⟩ := hone 0 h0
    refine ⟨b, off, by rw [e], h1, fun j x hx => ?_⟩
    obtain ⟨e9, b', off', e', _, h2⟩ := hP j x hx
    rw [e] at e'
    injection e' with e1 e2 _
    subst e1 e2
    exact ⟨e9, h2⟩
theorem open_bls {H : Type} {enc : TypeId × Value → H} {W : World} {v : Value} {d : DataW H} {p : List MemPlace} (h0 : DataW.Trod enc Try.prog W 0 (fun _ => true) true 45 v d p)
    {base : Nat} (hval : Value.okWide Try.prog W .any base 45 v) (hlt : ∀ x ∈ p, x.block < W.heap.size) (hb : Rows.uptoBulk d ≤ 1048576) :
    ∃ (A : Option Addr) (n c : Nat) (l : List Bool), v = .slice A n c ∧ n ≤ 1048576 ∧ Bls W A n l := by
  obtain ⟨a0, len0, cap0, rfl⟩ := okWide_slice Try.underlying45 hval
  obtain ⟨fuel, hf⟩ := h0
  simp only [Value.cells] at hf
  rcases DataW.trod_slice Try.underlying45 hf with ⟨e5, _⟩ | ⟨ad, len, cap, elems, rest, n2, en, e5, ey3, _, hlc, hcm, hel, hget, hsp, _⟩
  · simp at e5
    obtain ⟨rfl, rfl, rfl⟩ := e5
    exact ⟨none, 0, 0, [], rfl, by omega, rfl, fun h => absurd h (by omega)⟩
  · simp at e5
    obtain ⟨rfl, rfl, rfl⟩ := e5
    simp only [Prod.mk.injEq] at ey3
    obtain ⟨rfl, rfl⟩ := ey3
    simp only [Rows.uptoBulk] at hb
    have hbl := bulk_len (elems.map (·.1))
    rw [List.length_map] at hbl
    have hlen : len0 ≤ 1048576 := by omega
    have hone : ∀ j, j < len0 → ∃ q : Bool, W.cell? (ad.add j) = some (.bool q) := by
      intro j hj
      have hg := hget j hj
      rw [Try.cells4] at hg
      have hjl : j < elems.length := by omega
      rw [List.getElem?_eq_getElem hjl] at hg
      obtain ⟨cs', hcs, htr⟩ := Option.bind_eq_some_iff.1 hg
      obtain ⟨q, rfl, _⟩ := DataW.trod_bool Try.underlying4 htr
      obtain ⟨_, _, hcell⟩ := World.cells?_some hcs
      have h0 : W.cell? ((ad.add (j * 1)).add 0) = some (.bool q) := hcell 0 (by omega)
      refine ⟨q, ?_⟩
      rw [Nat.mul_one] at h0
      simpa [Addr.add] using h0
    have hlist : ∀ n, n ≤ len0 → ∃ l : List Bool, l.length = n ∧ ∀ (j : Nat) x, l[j]? = some x → W.cell? (ad.add j) = some (.bool x) := by
      intro n
      induction n with
      | zero => exact fun _ => ⟨[], rfl, fun j x h => by simp at h⟩
      | succ n ih =>
        intro hn
        obtain ⟨l, hl, hP⟩ := ih (by omega)
        obtain ⟨q, hq⟩ := hone n (by omega)
        refine ⟨l ++ [q], by simp [hl], fun j x hj => ?_⟩
        by_cases hjn : j < n
        · rw [List.getElem?_append_left (by omega)] at hj
          exact hP j x hj
        · have hj2 := (List.getElem?_eq_some_iff.1 hj).1
          simp [hl] at hj2
          obtain rfl : j = n := by omega
          rw [List.getElem?_append_right (by omega), hl, Nat.sub_self] at hj
          simp at hj; subst hj
          exact hq
    obtain ⟨l, hl, hP⟩ := hlist len0 (Nat.le_refl _)
    refine ⟨some ad, len0, cap0, l, rfl, hlen, hl, fun h0 => ?_⟩
    obtain ⟨q0, hq0⟩ := hone 0 h0
    obtain ⟨b, off, spot⟩ := ad
    have hspot : spot = none := by simpa [Addr.add] using World.cell?_spot hq0
    subst hspot
    have hblk : b < W.heap.size := by
      have := World.block_lt_of_cell? W _ hq0
      rwa [add_plain] at this
    exact ⟨b, off, rfl, hblk, fun j x hj => by rw [← add_plain]; exact hP j x hj⟩
theorem array6 {α : Type} {cs : Array α} (h : cs.size = 6) : ∃ c0 c1 c2 c3 c4 c5, cs = #[c0, c1, c2, c3, c4, c5] := by
  obtain ⟨l⟩ := cs
  match l, h with
  | [c0, c1, c2, c3, c4, c5], _ => exact ⟨c0, c1, c2, c3, c4, c5, rfl⟩
theorem slice_cell {H : Type} {enc : TypeId × Value → H} {W : World} {v : Value} {t e : TypeId} {x : DataW H × List MemPlace} {fuel : Nat} (ht : Try.prog.underlying t = some (.slice e)) (h : DataW.trod enc Try.prog W 0 (fun _ => true) true fuel t [v] = some x) : ∃ A n c, v = .slice A n c := by
  rcases DataW.trod_slice ht h with ⟨e5, _⟩ | ⟨ad, len, cap, _, _, _, _, e5, _⟩
  · simp only [List.cons.injEq, and_true] at e5
    exact ⟨_, _, _, e5⟩
  · simp only [List.cons.injEq, and_true] at e5
    exact ⟨_, _, _, e5⟩
theorem Try.cells37 : Try.prog.cellsOf 37 = 1 := by kernel_rfl
theorem Try.cells38 : Try.prog.cellsOf 38 = 1 := by kernel_rfl
theorem Try.cells39 : Try.prog.cellsOf 39 = 1 := by kernel_rfl
theorem Try.cells40 : Try.prog.cellsOf 40 = 1 := by kernel_rfl
theorem Try.cells41 : Try.prog.cellsOf 41 = 1 := by kernel_rfl
theorem Try.cells42 : Try.prog.cellsOf 42 = 1 := by kernel_rfl
theorem open_form {H : Type} {enc : TypeId × Value → H} {W : World} {v : Value} {d : DataW H} {p : List MemPlace} (h0 : DataW.Trod enc Try.prog W 0 (fun _ => true) true 44 v d p)
    {base : Nat} (hval : Value.okWide Try.prog W .any base 44 v) (hlt : ∀ x ∈ p, x.block < W.heap.size) (hb : Rows.uptoBulk d ≤ 1048576) :
    ∃ (f : Fv) (its : List SwI) (pg : List (ByteArray × ByteArray)), v = .agg #[.slice f.a1 f.n1 f.c1, .slice f.a2 f.n2 f.c2, .slice f.a3 f.n3 f.c3, .slice f.a4 f.n4 f.c4, .slice f.a5 f.n5 f.c5, .slice f.a6 f.n6 f.c6] ∧ Frm W f its pg := by
  obtain ⟨cs, rfl, hsz⟩ := okWide_struct Try.underlying44 hval
  obtain ⟨c0, c1, c2, c3, c4, c5, rfl⟩ := array6 (hsz.trans Try.cells44)
  obtain ⟨fuel, hf⟩ := h0
  simp only [Value.cells] at hf
  obtain ⟨xs, n, _, hx, hl, hlen, hg⟩ := DataW.trod_struct Try.underlying44 hf
  match xs, hlen with
  | [y0, y1, y2, y3, y4, y5], _ =>
    have g0 : DataW.trod enc Try.prog W 0 (fun _ => true) true n 37 (([c0, c1, c2, c3, c4, c5].drop 0).take (Try.prog.cellsOf 37)) = some y0 := hg 0 _ rfl
    have g1 : DataW.trod enc Try.prog W 0 (fun _ => true) true n 38 (([c0, c1, c2, c3, c4, c5].drop 1).take (Try.prog.cellsOf 38)) = some y1 := hg 1 _ rfl
    have g2 : DataW.trod enc Try.prog W 0 (fun _ => true) true n 39 (([c0, c1, c2, c3, c4, c5].drop 2).take (Try.prog.cellsOf 39)) = some y2 := hg 2 _ rfl
    have g3 : DataW.trod enc Try.prog W 0 (fun _ => true) true n 40 (([c0, c1, c2, c3, c4, c5].drop 3).take (Try.prog.cellsOf 40)) = some y3 := hg 3 _ rfl
    have g4 : DataW.trod enc Try.prog W 0 (fun _ => true) true n 41 (([c0, c1, c2, c3, c4, c5].drop 4).take (Try.prog.cellsOf 41)) = some y4 := hg 4 _ rfl
    have g5 : DataW.trod enc Try.prog W 0 (fun _ => true) true n 42 (([c0, c1, c2, c3, c4, c5].drop 5).take (Try.prog.cellsOf 42)) = some y5 := hg 5 _ rfl
    rw [Try.cells37] at g0
    rw [Try.cells38] at g1
    rw [Try.cells39] at g2
    rw [Try.cells40] at g3
    rw [Try.cells41] at g4
    rw [Try.cells42] at g5
    simp only [Prod.mk.injEq] at hx
    obtain ⟨rfl, rfl⟩ := hx
    simp only [Rows.uptoBulk, Rows.uptoBulkAll, List.map] at hb
    obtain ⟨a1, n1, k1, its, rfl, b1, s1⟩ := sw_row (v := c0) g0 (fun x hx => hlt x (by simp [hx])) (by omega)
    obtain ⟨a3, n3, k3, pg, rfl, b3, s3⟩ := page_row (v := c2) g2 (fun x hx => hlt x (by simp [hx])) (by omega)
    obtain ⟨a2, n2, k2, rfl⟩ := slice_cell (v := c1) Try.underlying38 g1
    obtain ⟨a4, n4, k4, rfl⟩ := slice_cell (v := c3) Try.underlying40 g3
    obtain ⟨a5, n5, k5, rfl⟩ := slice_cell (v := c4) Try.underlying41 g4
    obtain ⟨a6, n6, k6, rfl⟩ := slice_cell (v := c5) Try.underlying42 g5
    exact ⟨⟨a1, n1, k1, a2, n2, k2, a3, n3, k3, a4, n4, k4, a5, n5, k5, a6, n6, k6⟩, its, pg, rfl, s1, s3, by show n1 ≤ _; omega, by show n3 ≤ _; omega⟩
end Go.Proofs.Ytaifgehmlfjljaa
