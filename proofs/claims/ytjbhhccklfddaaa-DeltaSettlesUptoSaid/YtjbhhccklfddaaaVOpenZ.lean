/-
  A row's arguments opened: a slice of uint32 that is read as data reads as a row of limbs.
  A row's arguments opened: a struct of a sign and two slices of uint32 that is read as data reads as a rational.
  A law's argument opened: a sum that is read as data, of a bulk that is bounded.
  Slices of ints, out of what was handed in.
-/
import Derived.Test.YtjbhhccklfddaaaVMNa
import Derived.ProofKit
import Derived.Test.YtjbhhccklfddaaaVMRa
import Derived.Lib.SmallJoins
import Derived.SizedLaws
import Derived.Test.YtjbhhccklfddaaaVGnB
import Derived.Test.YtjbhhccklfddaaaRows
import Derived.WalkKit
import Derived.WalkSpells
import Derived.WalkLawsBesides
import Derived.Deep.Strs
import Derived.ChangeArms
import Derived.Test.YtjbhhccklfddaaaVDlA
namespace Go.Proofs.Ytjbhhccklfddaaa
set_option maxRecDepth 20000
open Go.ChangeShapes Go.WideShapes Go.ChangeAt Go.RowKit
theorem Try.own : ownKnob Try.prog.godebug = none := by kernel_rfl
theorem Try.laidOut : laidOutB Try.prog = true := by kernel_rfl
theorem Try.cells66 : Try.prog.cellsOf 66 = 1 := by kernel_rfl
theorem dg_map (zs : List Int) (len j : Nat) (hj : j < (zs.take len).length) (h0 : 0 ≤ (zs.getD j 0)) : ((dg ((zs.take len).map Int.toNat) j : Nat) : Int) = zs.getD j 0 := by
 have hj2 : j < len ∧ j < zs.length := by simp at hj; omega
 rw [dg_eq]
 simp [hj2.1, hj2.2] at h0 ⊢
 omega
end Go.Proofs.Ytjbhhccklfddaaa

namespace Go.Proofs.Ytjbhhccklfddaaa
set_option maxRecDepth 20000
open Go.Joins Go.ChangeShapes Go.WideShapes Go.ChangeAt Go.RowKit
theorem Try.cells37 : Try.prog.cellsOf 37 = 3 := by kernel_rfl
end Go.Proofs.Ytjbhhccklfddaaa

namespace Go.Proofs.Ytjbhhccklfddaaa
set_option maxRecDepth 20000
open Go.Deep Go.Joins Go.ChangeShapes Go.WideShapes Go.ChangeAt Go.RowKit
theorem bulk_mem {H : Type} {d : DataW H} : ∀ {l : List (DataW H)}, d ∈ l → Rows.uptoBulk d ≤ Rows.uptoBulkAll l
 | [], h => by cases h
 |
  x :: l, h => by
  rw [Rows.uptoBulkAll]
  rcases List.mem_cons.1 h with rfl | h
  · omega
  · have := bulk_mem h; omega
theorem bulk_pos {H : Type} (d : DataW H) : 1 ≤ Rows.uptoBulk d := by
 cases d with
 | lit l => cases l <;> simp [Rows.uptoBulk]
 | _ => simp [Rows.uptoBulk]
theorem bulk_len {H : Type} : ∀ l : List (DataW H), l.length ≤ Rows.uptoBulkAll l
 | [] => Nat.zero_le _
 | x :: l => by rw [Rows.uptoBulkAll, List.length_cons]; have := bulk_len l; have := bulk_pos x; omega
theorem Try.cells40 : Try.prog.cellsOf 40 = 4 := by kernel_rfl
theorem Try.cells43 : Try.prog.cellsOf 43 = 5 := by kernel_rfl
theorem Try.cells3 : Try.prog.cellsOf 3 = 1 := by kernel_rfl
theorem Try.cells35b : Try.prog.cellsOf 35 = 1 := by kernel_rfl
theorem Try.cells4b : Try.prog.cellsOf 4 = 1 := by kernel_rfl
theorem Try.cells41 : Try.prog.cellsOf 41 = 1 := by kernel_rfl
theorem open_limbsU {H : Type} {enc : TypeId × Value → H} {W : World} {v : Value} {y : DataW H × List MemPlace} {fuel : Nat} (hf : DataW.trod enc Try.prog W 0 (fun _ => true) true fuel 35 [v] = some y)
  (hlt : ∀ x ∈ y.2, x.block < W.heap.size) (hb : Rows.uptoBulk y.1 ≤ 1048576) :
  ∃ A n c l, v = .slice A n c ∧ n ≤ c ∧ n ≤ 1048576 ∧ Row W 0 A n l := by
 rcases open_ints Try.underlying35 Try.underlying66 Try.cells66 hf with ⟨hcs, hx⟩ | ⟨a, len', cap', zs, hcs, _, hl, hm, hz, hx, hcell, hwz⟩
 ·
  simp at hcs
  subst hcs
  exact ⟨none, 0, 0, [], rfl, Nat.le_refl _, by omega, Row.nil_ _ _ _⟩
 ·
  simp at hcs
  subst hcs
  subst hx
  simp only [if_true] at hz
  have hr : ∀ z ∈ zs, 0 ≤ z ∧ z < 4294967296 := by
   intro z hz
   have := hwz z hz
   simp only [Lit.wf, Bool.and_eq_true, decide_eq_true_eq] at this
   have h1 : IntKind.u32.min = 0 := rfl
   have h2 : IntKind.u32.max = 4294967295 := rfl
   omega
  have hlen : (zs.take len').length = len' := by simp; omega
  have hn : len' ≤ 1048576 := by
   simp only [Rows.uptoBulk] at hb
   have := bulk_len (lits (H := H) IntKind.u32 (List.take len' zs))
   simp [lits] at this
   simp [lits] at hb
   omega
  refine ⟨some a, len', cap', (zs.take len').map Int.toNat, rfl, hl, hn, by simp; omega, ?_, ?_⟩
  ·
   intro i
   rw [dg_eq, List.getElem?_map]
   cases hq : (zs.take len')[i]? with
   | none => simp
   |
    some z =>
    have hmem : z ∈ zs := List.mem_of_mem_take (List.mem_of_getElem? hq)
    have := hr z hmem
    simp; omega
  ·
   intro hn
   obtain ⟨b, off, spot⟩ := a
   have hspot : spot = none := by simpa [Addr.add] using World.cell?_spot (hcell 0 (by omega))
   subst hspot
   have hbW : b < W.heap.size := hlt (.cell b off) (MemPlace.mem_row.2 ⟨0, by omega, by simp⟩)
   refine ⟨b, off, rfl, Nat.zero_le _, hbW, fun j hj => ?_⟩
   rw [← add_plain, hcell j (by omega), dg_map zs len' j (by omega)]
   have hj2 : j < zs.length := by omega
   have : zs.getD j 0 = zs[j] := by simp [List.getD, hj2]
   rw [this]
   exact (hr _ (List.getElem_mem hj2)).1
theorem open_ratU {H : Type} {enc : TypeId × Value → H} {W : World} {c1 c2 c3 : Value} {y : DataW H × List MemPlace} {fuel : Nat} (hf : DataW.trod enc Try.prog W 0 (fun _ => true) true fuel 37 [c1, c2, c3] = some y)
  (hlt : ∀ x ∈ y.2, x.block < W.heap.size) (hb : Rows.uptoBulk y.1 ≤ 1048576) :
  ∃ r : Rv, c1 = .bool r.s ∧ c2 = .slice r.A r.n r.c ∧ c3 = .slice r.B r.m r.d ∧ RdR W r ∧ r.n ≤ 1048576 ∧ r.m ≤ 1048576 := by
 obtain ⟨z0, z1, z2, m, ez, _, g0, g1, g2⟩ := trod_struct3 Try.underlying37 hf
 replace g0 : DataW.trod enc Try.prog W 0 (fun _ => true) true m 4 (([c1, c2, c3].drop 0).take (Try.prog.cellsOf 4)) = some z0 := g0
 rw [Try.cells4b] at g0
 change DataW.trod enc Try.prog W 0 (fun _ => true) true m 4 [c1] = some z0 at g0
 replace g1 : DataW.trod enc Try.prog W 0 (fun _ => true) true m 35 (([c1, c2, c3].drop 1).take (Try.prog.cellsOf 35)) = some z1 := g1
 rw [Try.cells35b] at g1
 change DataW.trod enc Try.prog W 0 (fun _ => true) true m 35 [c2] = some z1 at g1
 replace g2 : DataW.trod enc Try.prog W 0 (fun _ => true) true m 35 (([c1, c2, c3].drop 2).take (Try.prog.cellsOf 35)) = some z2 := g2
 rw [Try.cells35b] at g2
 change DataW.trod enc Try.prog W 0 (fun _ => true) true m 35 [c3] = some z2 at g2
 obtain ⟨s, es, _⟩ := DataW.trod_bool Try.underlying4 g0
 rw [ez] at hb hlt
 simp only [Rows.uptoBulk, Rows.uptoBulkAll] at hb
 obtain ⟨A, n1, k1, a, eA, l1, l2, ra⟩ := open_limbsU g1 (fun x hx => hlt x (by simp [hx])) (by omega)
 obtain ⟨B, m1, k2, b, eB, l3, l4, rb⟩ := open_limbsU g2 (fun x hx => hlt x (by simp [hx])) (by omega)
 simp only [List.cons.injEq, and_true] at es
 exact ⟨⟨s, A, n1, k1, B, m1, k2⟩, es, eA, eB, ⟨l1, l3, a, b, ra, rb⟩, l2, l4⟩
theorem open_termU {H : Type} {enc : TypeId × Value → H} {W : World} {cs : List Value} {y : DataW H × List MemPlace} {fuel : Nat} (hf : DataW.trod enc Try.prog W 0 (fun _ => true) true fuel 40 cs = some y)
  (hlt : ∀ x ∈ y.2, x.block < W.heap.size) (hb : Rows.uptoBulk y.1 ≤ 1048576) :
  ∃ t : Tv, cs = tcells t ∧ RdR W t.r ∧ t.r.n ≤ 1048576 ∧ t.r.m ≤ 1048576 ∧ -9223372036854775808 ≤ t.v ∧ t.v ≤ 9223372036854775807 := by
 obtain ⟨z0, z1, m, ez, hl, g0, g1⟩ := trod_struct2 Try.underlying40 hf
 rw [Try.cells40] at hl
 match cs, hl with
 |
  [c0, c1, c2, c3], _ =>
  replace g0 : DataW.trod enc Try.prog W 0 (fun _ => true) true m 3 (([c0, c1, c2, c3].drop 0).take (Try.prog.cellsOf 3)) = some z0 := g0
  rw [Try.cells3] at g0
  change DataW.trod enc Try.prog W 0 (fun _ => true) true m 3 [c0] = some z0 at g0
  replace g1 : DataW.trod enc Try.prog W 0 (fun _ => true) true m 37 (([c0, c1, c2, c3].drop 1).take (Try.prog.cellsOf 37)) = some z1 := g1
  rw [Try.cells37] at g1
  change DataW.trod enc Try.prog W 0 (fun _ => true) true m 37 [c1, c2, c3] = some z1 at g1
  obtain ⟨i, e0, _, wi⟩ := DataW.trod_int Try.underlying3 g0
  rw [ez] at hb hlt
  simp only [Rows.uptoBulk, Rows.uptoBulkAll] at hb
  obtain ⟨r, e1, e2, e3, hr, hn, hm⟩ := open_ratU g1 (fun x hx => hlt x (by simp [hx])) (by omega)
  simp only [List.cons.injEq, and_true] at e0
  have hw : -9223372036854775808 ≤ i ∧ i ≤ 9223372036854775807 := by
   simp only [Lit.wf, Bool.and_eq_true, decide_eq_true_eq] at wi
   have h1 : IntKind.i64.min = -9223372036854775808 := rfl
   have h2 : IntKind.i64.max = 9223372036854775807 := rfl
   omega
  exact ⟨⟨i, r⟩, by rw [e0, e1, e2, e3]; rfl, hr, hn, hm, hw⟩
theorem list_of {P : Nat → Tv → Prop} : ∀ (n : Nat), (∀ j, j < n → ∃ x, P j x) → ∃ l : List Tv, l.length = n ∧ ∀ j x, l[j]? = some x → P j x
 | 0, _ => ⟨[], rfl, fun j x h => by simp at h⟩
 |
  n + 1, h => by
  obtain ⟨l, hl, hP⟩ := list_of n fun j hj => h j (by omega)
  obtain ⟨x, hx⟩ := h n (by omega)
  refine ⟨l ++ [x], by simp [hl], fun j y hy => ?_⟩
  by_cases hj : j < n
  · exact hP j y (by rwa [List.getElem?_append_left (by omega)] at hy)
  ·
   have hj2 : j < n + 1 := by have := (List.getElem?_eq_some_iff.1 hy).1; simp [hl] at this; omega
   have : j = n := by omega
   subst this
   rw [List.getElem?_append_right (by omega), hl, Nat.sub_self] at hy
   simp at hy
   subst hy
   exact hx
theorem at4_of {w : World} {base b off i : Nat} {t : Tv} (h : w.cells? base ((⟨b, off, none⟩ : Addr).add (i * 4)) 4 = some (tcells t)) : At4 w b (off + i * 4) t := by
 obtain ⟨_, _, hc⟩ := World.cells?_some h
 have g : ∀ j, j < 4 → w.cell? ⟨b, off + i * 4 + j, none⟩ = (tcells t)[j]? := fun j hj => by
  have := hc j hj
  rw [add_plain, add_plain] at this
  exact this
 exact ⟨g 0 (by omega), g 1 (by omega), g 2 (by omega), g 3 (by omega)⟩
set_option maxHeartbeats 1600000 in
theorem open_conE {H : Type} {enc : TypeId × Value → H} {W : World} {cs : List Value} {y : DataW H × List MemPlace} {fuel : Nat} (hf : DataW.trod enc Try.prog W 0 (fun _ => true) true fuel 43 cs = some y)
  (hlt : ∀ x ∈ y.2, x.block < W.heap.size) (hb : Rows.uptoBulk y.1 ≤ 1048576) :
  ∃ (u : Cv) (l : List Tv), cs = [.int .i64 u.s, .slice u.A u.n u.c, .bool u.K.s, .slice u.K.A u.K.n u.K.c, .slice u.K.B u.K.m u.K.d] ∧ Raw W u l := by
 obtain ⟨y0, y1, y2, n, ex, hl, h0, h1, h2⟩ := trod_struct3 Try.underlying43 hf
 rw [Try.cells43] at hl
 rw [ex] at hb hlt
 simp only [Rows.uptoBulk, Rows.uptoBulkAll] at hb
 match cs, hl with
 |
  [c0, c1, c2, c3, c4], _ =>
  replace h0 : DataW.trod enc Try.prog W 0 (fun _ => true) true n 3 (([c0, c1, c2, c3, c4].drop 0).take (Try.prog.cellsOf 3)) = some y0 := h0
  rw [Try.cells3] at h0
  change DataW.trod enc Try.prog W 0 (fun _ => true) true n 3 [c0] = some y0 at h0
  replace h1 : DataW.trod enc Try.prog W 0 (fun _ => true) true n 41 (([c0, c1, c2, c3, c4].drop 1).take (Try.prog.cellsOf 41)) = some y1 := h1
  rw [Try.cells41] at h1
  change DataW.trod enc Try.prog W 0 (fun _ => true) true n 41 [c1] = some y1 at h1
  replace h2 : DataW.trod enc Try.prog W 0 (fun _ => true) true n 37 (([c0, c1, c2, c3, c4].drop 2).take (Try.prog.cellsOf 37)) = some y2 := h2
  rw [Try.cells37] at h2
  change DataW.trod enc Try.prog W 0 (fun _ => true) true n 37 [c2, c3, c4] = some y2 at h2
  obtain ⟨i, e0, _, wi⟩ := DataW.trod_int Try.underlying3 h0
  obtain ⟨r, e1, e2, e3, hr, hn, hm⟩ := open_ratU h2 (fun x hx => hlt x (by simp [hx])) (by omega)
  simp only [List.cons.injEq, and_true] at e0
  have fin : ∀ (A : Option Addr) (len cap : Nat), c1 = .slice A len cap → [c0, c1, c2, c3, c4] = [.int .i64 i, .slice A len cap, .bool r.s, .slice r.A r.n r.c, .slice r.B r.m r.d] := fun A len cap e => by
   rw [e0, e1, e2, e3, e]
  rcases DataW.trod_slice Try.underlying41 h1 with ⟨e5, _⟩ | ⟨ad, len, cap, elems, rest, n2, en, e5, ey3, _, hlc, hcm, hel, hget, hsp, _⟩
  ·
   simp only [List.cons.injEq, and_true] at e5
   exact ⟨⟨i, none, 0, 0, r⟩, [], fin _ _ _ e5, ⟨⟨Tms.nil_ _ _ _, Nat.zero_le _, hn, hm, Nat.le_refl _, fun x hx => by cases hx⟩, hr, fun x hx => by cases hx⟩⟩
  ·
   simp only [List.cons.injEq, and_true] at e5
   rw [ey3] at hb hlt
   simp only [Rows.uptoBulk] at hb
   have hlen : len ≤ 1048576 := by
    have := bulk_len (elems.map (·.1))
    rw [List.length_map] at this
    omega
   have hone : ∀ j, j < len → ∃ x : Tv, (∃ b off, ad = ⟨b, off, none⟩ ∧ b < W.heap.size ∧ At4 W b (off + j * 4) x) ∧ RdR W x.r ∧ x.r.n ≤ 1048576 ∧ x.r.m ≤ 1048576 ∧ -9223372036854775808 ≤ x.v ∧ x.v ≤ 9223372036854775807 := by
    intro j hj
    have hg := hget j hj
    rw [Try.cells40] at hg
    have hjl : j < elems.length := by omega
    rw [List.getElem?_eq_getElem hjl] at hg
    obtain ⟨cs', hcs, htr⟩ := Option.bind_eq_some_iff.1 hg
    have hmem : elems[j] ∈ elems := List.getElem_mem hjl
    obtain ⟨t, rfl, ht, h8, h9⟩ := open_termU htr
     (fun y hy => hlt y (by simp only [List.mem_append, List.mem_flatMap]; exact .inr (.inl (.inr ⟨elems[j], .inl hmem, hy⟩))))
     (by have := bulk_mem (List.mem_map.2 ⟨elems[j], hmem, rfl⟩ : elems[j].1 ∈ elems.map (·.1)); omega)
    obtain ⟨bk, off, spot⟩ := ad
    obtain ⟨_, _, hcell⟩ := World.cells?_some hcs
    have hc0 := hcell 0 (by omega)
    have hspot : spot = none := by
     have hg0 := hget 0 (by omega)
     rw [Try.cells40, List.getElem?_eq_getElem (by omega)] at hg0
     obtain ⟨cs0, hcs0, htr0⟩ := Option.bind_eq_some_iff.1 hg0
     obtain ⟨t0, rfl, _⟩ := open_termU htr0
      (fun y hy => hlt y (by simp only [List.mem_append, List.mem_flatMap]; exact .inr (.inl (.inr ⟨elems[0], .inl (by simp), hy⟩))))
      (by have := bulk_mem (List.mem_map.2 ⟨elems[0], by simp, rfl⟩ : elems[0].1 ∈ elems.map (·.1)); omega)
     obtain ⟨_, _, hcell0⟩ := World.cells?_some hcs0
     have h7 : W.cell? (((⟨bk, off, spot⟩ : Addr).add (0 * 4)).add 0) = some (.int .i64 t0.v) := hcell0 0 (by omega)
     simpa [Addr.add] using World.cell?_spot h7
    subst hspot
    have hblk : bk < W.heap.size := by
     have h7 : W.cell? (((⟨bk, off, none⟩ : Addr).add (j * 4)).add 0) = some (.int .i64 t.v) := hc0
     have := World.block_lt_of_cell? W _ h7
     rw [add_plain, add_plain] at this
     exact this
    exact ⟨t, ⟨bk, off, rfl, hblk, at4_of hcs⟩, ht, h8, h9⟩
   obtain ⟨l, hll, hP⟩ := list_of len hone
   have hmem : ∀ x ∈ l, RdR W x.r ∧ x.r.n ≤ 1048576 ∧ x.r.m ≤ 1048576 ∧ -9223372036854775808 ≤ x.v ∧ x.v ≤ 9223372036854775807 := fun x hx => by
    obtain ⟨j, hj, e⟩ := List.getElem_of_mem hx
    exact (hP j x (by rw [List.getElem?_eq_getElem hj, e])).2
   refine ⟨⟨i, some ad, len, cap, r⟩, l, fin _ _ _ e5, ⟨⟨⟨hll, fun h9 => ?_⟩, hlen, hn, hm, hlc, fun x hx => ⟨(hmem x hx).2.1, (hmem x hx).2.2.1⟩⟩, hr, fun x hx => (hmem x hx).1⟩⟩
   have h9' : 0 < len := h9
   have h8 : 0 < l.length := by omega
   obtain ⟨b, off, e, hb9, _⟩ := (hP 0 l[0] (List.getElem?_eq_getElem h8)).1
   refine ⟨b, off, by rw [e], Nat.zero_le _, hb9, fun j x hx => ?_⟩
   obtain ⟨b', off', e', _, h4⟩ := (hP j x hx).1
   rw [e] at e'
   injection e' with e1 e2 _
   subst e1 e2
   exact h4
theorem list_ofK {P : Nat → (Cv × List Tv) → Prop} : ∀ (n : Nat), (∀ j, j < n → ∃ x, P j x) → ∃ l : List (Cv × List Tv), l.length = n ∧ ∀ j x, l[j]? = some x → P j x
 | 0, _ => ⟨[], rfl, fun j x h => by simp at h⟩
 |
  n + 1, h => by
  obtain ⟨l, hl, hP⟩ := list_ofK n fun j hj => h j (by omega)
  obtain ⟨x, hx⟩ := h n (by omega)
  refine ⟨l ++ [x], by simp [hl], fun j y hy => ?_⟩
  by_cases hj : j < n
  · exact hP j y (by rwa [List.getElem?_append_left (by omega)] at hy)
  ·
   have hj2 : j < n + 1 := by have := (List.getElem?_eq_some_iff.1 hy).1; simp [hl] at this; omega
   have : j = n := by omega
   subst this
   rw [List.getElem?_append_right (by omega), hl, Nat.sub_self] at hy
   simp at hy
   subst hy
   exact hx
theorem at5_of {w : World} {base b off i : Nat} {u : Cv} (h : w.cells? base ((⟨b, off, none⟩ : Addr).add (i * 5)) 5 = some [.int .i64 u.s, .slice u.A u.n u.c, .bool u.K.s, .slice u.K.A u.K.n u.K.c, .slice u.K.B u.K.m u.K.d]) : At5 w b (off + i * 5) u := by
 obtain ⟨_, _, hc⟩ := World.cells?_some h
 have g : ∀ j, j < 5 → w.cell? ⟨b, off + i * 5 + j, none⟩ = ([.int .i64 u.s, .slice u.A u.n u.c, .bool u.K.s, .slice u.K.A u.K.n u.K.c, .slice u.K.B u.K.m u.K.d] : List Value)[j]? := fun j hj => by
  have := hc j hj
  rw [add_plain, add_plain] at this
  exact this
 exact ⟨g 0 (by omega), g 1 (by omega), g 2 (by omega), g 3 (by omega), g 4 (by omega)⟩
set_option maxHeartbeats 1600000 in
theorem open_cons {H : Type} {enc : TypeId × Value → H} {W : World} {v : Value} {d : DataW H} {p : List MemPlace} (h0 : DataW.Trod enc Try.prog W 0 (fun _ => true) true 22 v d p)
  {base : Nat} (hval : Value.okWide Try.prog W .any base 22 v) (hlt : ∀ x ∈ p, x.block < W.heap.size) (hb : Rows.uptoBulk d ≤ 1048576) :
  ∃ (A : Option Addr) (n c : Nat) (l : List (Cv × List Tv)), v = .slice A n c ∧ n ≤ c ∧ n ≤ 1048576 ∧ Kons W A n (l.map (·.1)) ∧ ∀ x ∈ l, Raw W x.1 x.2 := by
 obtain ⟨fuel, hf⟩ := h0
 have ev := okWide_slice Try.underlying22 hval
 obtain ⟨A, n, c, rfl⟩ := ev
 have hcs0 : (Value.slice A n c).cells.toList = [.slice A n c] := by simp [Value.cells]
 rw [hcs0] at hf
 rcases DataW.trod_slice Try.underlying22 hf with ⟨e5, _⟩ | ⟨ad, len, cap, elems, rest, n2, en, e5, ey3, _, hlc, hcm, hel, hget, hsp, _⟩
 ·
  simp only [List.cons.injEq, and_true] at e5
  injection e5 with e1 e2 e3
  subst e1 e2 e3
  exact ⟨none, 0, 0, [], rfl, Nat.le_refl _, by omega, ⟨rfl, fun h => absurd h (by omega)⟩, fun x hx => by cases hx⟩
 ·
  simp only [List.cons.injEq, and_true] at e5
  injection e5 with e1 e2 e3
  subst e1 e2 e3
  simp only [Prod.mk.injEq] at ey3
  obtain ⟨rfl, rfl⟩ := ey3
  simp only [Rows.uptoBulk] at hb
  have hlen : n ≤ 1048576 := by
   have := bulk_len (elems.map (·.1))
   rw [List.length_map] at this
   omega
  have hone : ∀ j, j < n → ∃ x : Cv × List Tv, (∃ b off, ad = ⟨b, off, none⟩ ∧ b < W.heap.size ∧ At5 W b (off + j * 5) x.1) ∧ Raw W x.1 x.2 := by
   intro j hj
   have hg := hget j hj
   rw [Try.cells43] at hg
   have hjl : j < elems.length := by omega
   rw [List.getElem?_eq_getElem hjl] at hg
   obtain ⟨cs', hcs, htr⟩ := Option.bind_eq_some_iff.1 hg
   have hmem : elems[j] ∈ elems := List.getElem_mem hjl
   obtain ⟨t, tl, rfl, ht⟩ := open_conE htr
    (fun y hy => hlt y (by simp only [List.mem_append, List.mem_flatMap]; exact .inr ⟨elems[j], .inl hmem, hy⟩))
    (by have := bulk_mem (List.mem_map.2 ⟨elems[j], hmem, rfl⟩ : elems[j].1 ∈ elems.map (·.1)); omega)
   obtain ⟨bk, off, spot⟩ := ad
   obtain ⟨_, _, hcell⟩ := World.cells?_some hcs
   have hc0 := hcell 0 (by omega)
   have hspot : spot = none := by
    have hg0 := hget 0 (by omega)
    rw [Try.cells43, List.getElem?_eq_getElem (by omega)] at hg0
    obtain ⟨cs0, hcs0, htr0⟩ := Option.bind_eq_some_iff.1 hg0
    obtain ⟨t0, _, rfl, _⟩ := open_conE htr0
     (fun y hy => hlt y (by simp only [List.mem_append, List.mem_flatMap]; exact .inr ⟨elems[0], .inl (by simp), hy⟩))
     (by have := bulk_mem (List.mem_map.2 ⟨elems[0], by simp, rfl⟩ : elems[0].1 ∈ elems.map (·.1)); omega)
    obtain ⟨_, _, hcell0⟩ := World.cells?_some hcs0
    have h7 : W.cell? (((⟨bk, off, spot⟩ : Addr).add (0 * 5)).add 0) = some (.int .i64 t0.s) := hcell0 0 (by omega)
    simpa [Addr.add] using World.cell?_spot h7
   subst hspot
   have hblk : bk < W.heap.size := by
    have h7 : W.cell? (((⟨bk, off, none⟩ : Addr).add (j * 5)).add 0) = some (.int .i64 t.s) := hc0
    have := World.block_lt_of_cell? W _ h7
    rw [add_plain, add_plain] at this
    exact this
   exact ⟨(t, tl), ⟨bk, off, rfl, hblk, at5_of hcs⟩, ht⟩
  obtain ⟨l, hll, hP⟩ := list_ofK n hone
  refine ⟨some ad, n, c, l, rfl, hlc, hlen, ⟨by rw [List.length_map]; exact hll, fun h9 => ?_⟩, fun x hx => ?_⟩
  ·
   have h8 : 0 < l.length := by omega
   obtain ⟨b, off, e, hb9, _⟩ := (hP 0 l[0] (List.getElem?_eq_getElem h8)).1
   refine ⟨b, off, by rw [e], hb9, fun j x hx => ?_⟩
   rw [List.getElem?_map] at hx
   obtain ⟨y, hy, rfl⟩ := Option.map_eq_some_iff.1 hx
   obtain ⟨b', off', e', _, h4⟩ := (hP j y hy).1
   rw [e] at e'
   injection e' with e1 e2 _
   subst e1 e2
   exact h4
  ·
   obtain ⟨j, hj, e⟩ := List.getElem_of_mem hx
   exact (hP j x (by rw [List.getElem?_eq_getElem hj, e])).2
end Go.Proofs.Ytjbhhccklfddaaa

namespace Go.Proofs.Ytjbhhccklfddaaa
set_option maxRecDepth 20000
open Go.Deep Go.Joins Go.ChangeShapes Go.WideShapes Go.ChangeAt Go.RowKit
theorem open_intsZ {H : Type} {enc : TypeId × Value → H} {W : World} {v : Value} {d : DataW H} {p : List MemPlace} (h0 : DataW.Trod enc Try.prog W 0 (fun _ => true) true 23 v d p)
  {base : Nat} (hval : Value.okWide Try.prog W .any base 23 v) (hlt : ∀ x ∈ p, x.block < W.heap.size) (hb : Rows.uptoBulk d ≤ 1048576) :
  ∃ (A : Option Addr) (n c : Nat) (L : List Int), v = .slice A n c ∧ n ≤ c ∧ n ≤ 1048576 ∧ ZRow W A n L := by
 obtain ⟨fuel, hf⟩ := h0
 have ev := okWide_slice Try.underlying23 hval
 obtain ⟨A, n, c, rfl⟩ := ev
 have hcs0 : (Value.slice A n c).cells.toList = [.slice A n c] := by simp [Value.cells]
 rw [hcs0] at hf
 rcases open_ints Try.underlying23 Try.underlying3 Try.cells3 hf with ⟨hcs, hx⟩ | ⟨a, len', cap', zs, hcs, _, hl, hm, hz, hx, hcell, hwz⟩
 ·
  simp at hcs
  obtain ⟨rfl, rfl, rfl⟩ := hcs
  exact ⟨none, 0, 0, [], rfl, Nat.le_refl _, by omega, ⟨rfl, fun h => absurd h (by omega)⟩⟩
 ·
  simp at hcs
  obtain ⟨rfl, rfl, rfl⟩ := hcs
  have hx1 := congrArg Prod.fst hx
  have hx2 := congrArg Prod.snd hx
  simp only at hx1 hx2
  subst hx1 hx2
  simp only [if_true] at hz
  have hlen : (zs.take n).length = n := by simp; omega
  have hn : n ≤ 1048576 := by
   simp only [Rows.uptoBulk] at hb
   have := bulk_len (lits (H := H) IntKind.i64 (List.take n zs))
   simp [lits] at this
   simp [lits] at hb
   omega
  refine ⟨some a, n, c, zs.take n, rfl, hl, hn, hlen, fun hn => ?_⟩
  obtain ⟨b, off, spot⟩ := a
  have hspot : spot = none := by simpa [Addr.add] using World.cell?_spot (hcell 0 (by omega))
  subst hspot
  have hbW : b < W.heap.size := hlt (.cell b off) (MemPlace.mem_row.2 ⟨0, by omega, by simp⟩)
  refine ⟨b, off, rfl, hbW, fun j hj => ?_⟩
  rw [← add_plain, hcell j (by omega), zt_eq, List.getElem?_take, if_pos hj]
  rfl
end Go.Proofs.Ytjbhhccklfddaaa
