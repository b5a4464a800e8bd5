/-
  Constraints as they come in, the variables of those that may be; one taken in.
-/
import Derived.Test.YtjbhhccklfddaaaVGrB
import Derived.Test.YtjbhhccklfddaaaVHvH
import Derived.Test.YtjbhhccklfddaaaVIs
import Derived.StillTailTactics
namespace Go.Proofs.Ytjbhhccklfddaaa
set_option maxRecDepth 20000
open Go.RowKit
structure Gin (w : World) (x : Cv × List Tv) : Prop where
 cap : x.1.n ≤ x.1.c
 n : x.1.n ≤ 1000
 row : Tms w 0 x.1.A x.1.n x.2
 rd : ∃ L, Rds w 150 x.2 L
 k : ∃ k, Rw w x.1.K k 150
theorem Gin.below {w w' : World} {x : Cv × List Tv} (h : Gin w x) (hb : Below w.heap.size w w') : Gin w' x := by
 obtain ⟨h1, h2, h3, ⟨L, h4⟩, k, h5⟩ := h
 exact ⟨h1, h2, h3.below hb, ⟨L, h4.below hb⟩, k, h5.below hb⟩
theorem IsS.turn {w w' : World} {v : Cv} {l : List Tv} {N : Int} {L : List (Int × Rat)} {k : Rat} {p : Nat} (hl : Rds w p l L) (hk : Rw w v.K k p) (hb : Below w.heap.size w w') : IsS w v l N ↔ IsS w' v l N := by
 have hT : ∀ i, TOk w N l i ↔ TOk w' N l i := fun i => by
  have hn : ∀ x ∈ l, (Nrm w x.r ↔ Nrm w' x.r) := fun x hx => by
   obtain ⟨j, hj, e⟩ := List.getElem_of_mem hx
   obtain ⟨y, Y, h1, _, _, h4⟩ := hl.get j hj
   rw [List.getElem?_eq_getElem hj, e] at h1
   injection h1 with h1
   subst h1
   exact Nrm.iff h4 hb
  constructor
  ·
   intro h j x hj hx
   obtain ⟨g1, g2, g3, g4, g5⟩ := h j x hj hx
   exact ⟨g1, g2, g3, (hn x (List.mem_of_getElem? hx)).1 g4, g5⟩
  ·
   intro h j x hj hx
   obtain ⟨g1, g2, g3, g4, g5⟩ := h j x hj hx
   exact ⟨g1, g2, g3, (hn x (List.mem_of_getElem? hx)).2 g4, g5⟩
 unfold IsS
 rw [Nrm.iff hk hb, hT]
theorem Gin.turn {w w' : World} {x : Cv × List Tv} (h : Gin w x) (hb : Below w.heap.size w w') (N : Int) : IsS w x.1 x.2 N ↔ IsS w' x.1 x.2 N := by
 obtain ⟨_, _, _, ⟨L, h4⟩, k, h5⟩ := h
 exact IsS.turn h4 h5 hb
open Classical in
noncomputable def vr (w : World) (N : Nat) (x : Cv × List Tv) : List Nat := if IsS w x.1 x.2 (N : Int) then x.2.map fun t => t.v.toNat else []
theorem vr_yes {w : World} {N : Nat} {x : Cv × List Tv} (h : IsS w x.1 x.2 (N : Int)) : vr w N x = x.2.map fun t => t.v.toNat := by unfold vr; rw [if_pos h]
theorem vr_no {w : World} {N : Nat} {x : Cv × List Tv} (h : ¬ IsS w x.1 x.2 (N : Int)) : vr w N x = [] := by unfold vr; rw [if_neg h]
theorem vr_bnd (w : World) (N : Nat) (x : Cv × List Tv) : ∀ v ∈ vr w N x, v < N := by
 intro v hv
 by_cases h : IsS w x.1 x.2 (N : Int)
 ·
  rw [vr_yes h] at hv
  obtain ⟨t, ht, rfl⟩ := List.mem_map.1 hv
  obtain ⟨j, hj, e⟩ := List.getElem_of_mem ht
  have := h.2.2 j t hj (by rw [List.getElem?_eq_getElem hj, e])
  omega
 · rw [vr_no h] at hv; cases hv
theorem IsS.var {w : World} {v : Cv} {la : List Tv} {N : Nat} (h : IsS w v la (N : Int)) {j : Nat} {t : Tv} (ht : la[j]? = some t) : t.v = ((nth (la.map fun t => t.v.toNat) j : Nat) : Int) ∧ nth (la.map fun t => t.v.toNat) j < N := by
 have hj := (List.getElem?_eq_some_iff.1 ht).1
 have g := h.2.2 j t hj ht
 have e : nth (la.map fun t => t.v.toNat) j = t.v.toNat := by
  have := nth_get (c := la.map fun t => t.v.toNat) (j := j) (by rw [List.length_map]; exact hj)
  rw [List.getElem?_map, ht] at this
  injection this with this
  exact this.symm
 rw [e]; omega
set_option maxHeartbeats 6400000 in
theorem take_c (g N lo : Nat) (l c : List Nat) (va : Cv) (la : List Tv) (w0 w : World) (hc : vr w0 N (va, la) = c) (hx : Gin w0 (va, la)) (hb0 : Below w0.heap.size w0 w) (ho : OwnN w lo (some ⟨g, 0, none⟩) N N l) (hlo : w0.heap.size ≤ lo) (hN : N ≤ 64) :
  Calls Try.prog 76 #[.slice (some ⟨g, 0, none⟩) N N, .agg #[.int .i64 va.s, .slice va.A va.n va.c, .bool va.K.s, .slice va.K.A va.K.n va.K.c, .slice va.K.B va.K.m va.K.d]] w fun e w' => BPost (failR l c ≠ 0) e ∧ OwnN w' lo (some ⟨g, 0, none⟩) N N (stepR l c) ∧ w.grownBy w' (some g) := by
 have HX := Lib.hid hx
 have n1000 : va.n ≤ 1000 := hx.n
 have HB0 := Lib.hid hb0
 have HO := Lib.hid ho
 have HG : Hid (w0.heap.size ≤ lo ∧ lo ≤ g ∧ g < w.heap.size) := ⟨hlo, ho.lt⟩
 have HC := Lib.hid hc
 clear hx hb0 ho hlo hc
 have ka := C5.new w (.int .i64 va.s) (.slice va.A va.n va.c) (.bool va.K.s) (.slice va.K.A va.K.n va.K.c) (.slice va.K.B va.K.m va.K.d)
 have hB : Below w.heap.size w (w.alloc (.cells #[.int .i64 va.s, .slice va.A va.n va.c, .bool va.K.s, .slice va.K.A va.K.n va.K.c, .slice va.K.B va.K.m va.K.d] 43)) := (Below.refl _ _).alloc (Nat.le_refl _) _
 have HK := Lib.hid (And.intro ka hB)
 obtain ⟨a0, a1, a2, a3, a4⟩ := ka.facts
 clear ka hB
 go_enter Try.func76, Try.ntmps76
 go_wp2_with fail
 clear a0 a1 a2 a3 a4
 generalize w.alloc (.cells #[.int .i64 va.s, .slice va.A va.n va.c, .bool va.K.s, .slice va.K.A va.K.n va.K.c, .slice va.K.B va.K.m va.K.d] 43) = W at *
 obtain ⟨B, hBd⟩ : ∃ B, B = w.heap.size := ⟨_, rfl⟩
 have HBg : Hid (B = w.heap.size) := hBd
 rw [← hBd] at HK
 rw [← hBd]
 clear hBd
 have HWw : Hid (Below w.heap.size w W) := HBg.out ▸ HK.out.2
 have HBW : Hid (Below w0.heap.size w0 W) := HB0.out.trans (HWw.out.mono HB0.out.size)
 obtain ⟨L, hL⟩ := (HX.out.below HBW.out).rd
 obtain ⟨k, hk⟩ := (HX.out.below HBW.out).k
 have HLK := Lib.hid (And.intro hL hk)
 clear hL hk
 by_cases hs : IsS w0 va la (N : Int)
 ·
  refine (IsK_c va (N : Int) la L k W (HX.out.below HBW.out).row (HLK.out.1.more (by omega)) (HLK.out.2.more (by omega)) n1000 true ⟨fun _ => (HX.out.turn HBW.out _).1 hs, fun _ => rfl⟩).mono ?_
  rintro e w1 ⟨rfl, hb⟩
  have H1 : Hid (Below W.heap.size W w1) := hb
  have HS := Lib.hid hs
  clear hb hs
  have HE : Hid (c = la.map fun t => t.v.toNat) := HC.out.symm.trans (vr_yes HS.out)
  have HCL : Hid (c.length = va.n) := by show _ = _; rw [HE.out, List.length_map]; exact HX.out.row.len
  have HLA : Hid (la.length = va.n) := HX.out.row.len
  have H1w : Hid (Below w.heap.size w w1) := HWw.out.trans (H1.out.mono HWw.out.size)
  have H10 : Hid (Below w0.heap.size w0 w1) := HBW.out.trans (H1.out.mono HBW.out.size)
  have n0 : (0 : Int) ≤ (va.n : Int) := by omega
  have n1 : (va.n : Int) ≤ 1000 := by omega
  obtain ⟨a0, a1, a2, a3, a4⟩ := (HK.out.1.below H1.out).facts
  go_wp2
  clear a0 a1 a2 a3 a4
  go_loopw [5, 6] (fun rv iv wr => ∃ (b : Bool) (j : Nat), (j = 0 ∨ j < va.n) ∧ iv = .int .i64 ((j : Int) + 1) ∧ rv = .bool b ∧ Hid ((b = true ↔ failTo l c j ≠ 0) ∧ OwnN wr lo (some ⟨g, 0, none⟩) N N (chainTo l c j) ∧ w1.grownBy wr (some g))) (fun _ iv _ => va.n + 1 - (intOf iv).toNat)
  case atStart => exact ⟨false, 0, .inl rfl, rfl, rfl, Lib.hid ⟨⟨fun h => (by cases h), fun h => absurd rfl h⟩, HO.out.below H1w.out, grown_any (Below.refl _ _) _⟩⟩
  case round =>
   obtain ⟨b, j, hj, rfl, rfl, HR⟩ := hrel
   have HB0R : Hid (Below w0.heap.size w0 wr) := H10.out.trans (below_of_grown_row HR.out.2.2 (by have := HG.out; omega) H10.out.size)
   have HKR : Hid (C5 wr B (.int .i64 va.s) (.slice va.A va.n va.c) (.bool va.K.s) (.slice va.K.A va.K.n va.K.c) (.slice va.K.B va.K.m va.K.d)) := (HR.out.2.2.block B (by have := HK.out.1.lt; have := H1.out.size; omega) (by have := HG.out; have := HBg.out; simp; omega)).trans (HK.out.1.below H1.out)
   obtain ⟨a0, a1, a2, a3, a4⟩ := HKR.out.facts
   have j0 : (0 : Int) ≤ (j : Int) + 1 := by omega
   by_cases hlt : j + 1 < va.n
   ·
    have j1 : (j : Int) + 1 < (va.n : Int) := by omega
    obtain ⟨bk, off, hA, _, hbk, hcell⟩ := HX.out.row.mem (by show 0 < va.n; omega)
    have hi0 : j < la.length := by have := HLA.out; omega
    have hi1 : j + 1 < la.length := by have := HLA.out; omega
    have hl0 := List.getElem?_eq_getElem hi0
    have hl1 := List.getElem?_eq_getElem hi1
    have x0 := ((hcell j _ hl0).keep (HB0R.out.block bk hbk)).h0
    have y0 := ((hcell (j + 1) _ hl1).keep (HB0R.out.block bk hbk)).h0
    obtain ⟨ex, bx⟩ := HS.out.var hl0
    obtain ⟨ey, bY⟩ := HS.out.var hl1
    rw [ex, ← HE.out] at x0
    rw [ey, ← HE.out] at y0
    rw [← HE.out] at bx bY
    rw [show va.A = _ from hA] at a1
    clear hcell hl0 hl1 ex ey hA hi0 hi1
    have s1 : IntKind.i64.wrap ((j : Int) + 1 - 1) = (j : Int) := by rw [IntKind.wrap_i64]; omega
    have s2 : IntKind.i64.wrap (j : Int) = (j : Int) := by rw [IntKind.wrap_i64]; omega
    have j2 : (0 : Int) ≤ (j : Int) := by omega
    have j3 : (j : Int) < (va.n : Int) := by omega
    obtain ⟨u, hu⟩ : ∃ u, u = nth c j := ⟨_, rfl⟩
    obtain ⟨v, hv⟩ : ∃ v, v = nth c (j + 1) := ⟨_, rfl⟩
    rw [← hu] at x0 bx
    rw [← hv] at y0 bY
    have HUV := Lib.hid (And.intro hu hv)
    clear hu hv
    go_wp2
    have HBk : Hid (bk < wr.heap.size ∧ bk ≠ g ∧ B < wr.heap.size ∧ B ≠ g) := by
     have := HG.out; have := HBg.out; have := HB0R.out.size; have := HKR.out.lt
     show _ ∧ _ ∧ _ ∧ _
     omega
    clear hbk
    go_region_held3 (fun w' => w'.cell? ⟨B, 1, none⟩ = some (.slice (some ⟨bk, off, none⟩) va.n va.c) ∧ w'.cell? ⟨bk, off + j * 4, none⟩ = some (.int .i64 (u : Int)) ∧ w'.cell? ⟨bk, off + (j + 1) * 4, none⟩ = some (.int .i64 (v : Int))) (go_keep)
     (first
     | (
       go_at_call 93
       refine (join_c g N u v lo (chainTo l c j) _ HR.out.2.1.drew hN bx bY).mono ?_
       rintro ee w2 ⟨⟨r, rfl, hr⟩, ho2, hg2⟩
       replace a1 := (World.cell?_of_block (hg2.block B HBk.out.2.2.1 (by have := HBk.out.2.2.2; simp; omega))).trans a1
       replace x0 := (World.cell?_of_block (hg2.block bk HBk.out.1 (by have := HBk.out.2.1; simp; omega))).trans x0
       replace y0 := (World.cell?_of_block (hg2.block bk HBk.out.1 (by have := HBk.out.2.1; simp; omega))).trans y0
       have H2 : Hid ((r = true ↔ rt (chainTo l c j) u ≠ rt (chainTo l c j) v) ∧ OwnN w2 lo (some ⟨g, 0, none⟩) N N (mrg (chainTo l c j) u v) ∧ w1.grownBy w2 (some g)) := ⟨hr, ho2, (HR.out.2.2.trans (grown_any ((Below.refl _ _).drew) _)).trans hg2⟩
       clear hr ho2 hg2))
    clear a0 a1 a2 a3 a4 x0 y0 HKR HB0R
    have HN2 : Hid (∀ b2 : Bool, (b2 = true ↔ (b = true ∨ r = false)) → ((b2 = true ↔ failTo l c (j + 1) ≠ 0) ∧ OwnN w2 lo (some ⟨g, 0, none⟩) N N (chainTo l c (j + 1)) ∧ w1.grownBy w2 (some g))) := by
     intro b2 hb2
     obtain ⟨g1, g2, g3⟩ := H2.out
     obtain ⟨f1, _, _⟩ := HR.out
     rw [HUV.out.1, HUV.out.2] at g1 g2
     refine ⟨?_, g2, g3⟩
     rw [hb2, f1, failTo]
     by_cases e : rt (chainTo l c j) (nth c j) = rt (chainTo l c j) (nth c (j + 1))
     ·
      have hr : r = false := by cases r with
       | false => rfl
       | true => exact absurd e (g1.1 rfl)
      rw [if_pos e]
      exact ⟨fun _ => by omega, fun _ => .inr hr⟩
     ·
      have hr : r = true := g1.2 e
      rw [if_neg e]
      constructor
      ·
       rintro (h | h)
       · omega
       · rw [hr] at h; cases h
      · intro h; left; omega
    clear H2 HR
    cases r with
    |
     true =>
     go_wp2
     go_roundw
     case rel => exact ⟨b, j + 1, .inr hlt, by go_num, rfl, HN2.out b ⟨fun h => .inl h, fun h => h.elim id (fun h => by cases h)⟩⟩
     case measure => simp [intOf]; omega
    |
     false =>
     go_wp2
     go_roundw
     case rel => exact ⟨true, j + 1, .inr hlt, by go_num, rfl, HN2.out true ⟨fun _ => .inr rfl, fun _ => rfl⟩⟩
     case measure => simp [intOf]; omega
   ·
    have j1 : ¬ (j : Int) + 1 < (va.n : Int) := by omega
    have e : j = c.length - 1 := by have := HCL.out; omega
    have HF : Hid ((b = true ↔ failR l c ≠ 0) ∧ OwnN wr lo (some ⟨g, 0, none⟩) N N (stepR l c) ∧ w.grownBy wr (some g)) := by
     obtain ⟨f1, f2, f3⟩ := HR.out
     rw [e] at f1 f2
     exact ⟨f1, f2, (grown_any H1w.out _).trans f3⟩
    clear e HR
    go_wp2
    go_ret
    exact ⟨⟨b, rfl, HF.out.1⟩, HF.out.2.1, HF.out.2.2⟩
 ·
  refine (IsK_c va (N : Int) la L k W (HX.out.below HBW.out).row (HLK.out.1.more (by omega)) (HLK.out.2.more (by omega)) n1000 false ⟨fun h => (by cases h), fun h => absurd ((HX.out.turn HBW.out _).2 h) hs⟩).mono ?_
  rintro e w1 ⟨rfl, hb⟩
  have HE : c = [] := HC.out.symm.trans (vr_no hs)
  have H1w : Hid (Below w.heap.size w w1) := HWw.out.trans (hb.mono HWw.out.size)
  clear hb hs HC
  subst HE
  go_wp2
  go_ret
  exact ⟨.no (fun h => h rfl) rfl, HO.out.below H1w.out, grown_any H1w.out _⟩
end Go.Proofs.Ytjbhhccklfddaaa
