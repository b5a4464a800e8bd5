/-
  Numbers sorted by how strong their constraints are, by the library.
  Numbers sorted by insertion, by the library.
  The numbers of all constraints, the strongest first.
-/
import Derived.Test.YtjbhhccklfddaaaVDlG
namespace Go.Proofs.Ytjbhhccklfddaaa
set_option maxRecDepth 20000
open Go.RowKit
theorem isNaN_c (x : Int) (w : World) : Calls Try.prog 62 #[.int .i64 x] w fun e w' => e = .returned (.bool false) ∧ Below w.heap.size w w' := by
 have h : (x != x) = false := by simp
 go_enter Try.func62, Try.ntmps62
 go_wp2
 go_ret
 exact ⟨by simp, Below.refl _ _⟩
set_option maxHeartbeats 1600000 in
theorem Compare_c (x y : Int) (w : World) : Calls Try.prog 49 #[.int .i64 x, .int .i64 y] w fun e w' => ∃ k : Int, e = .returned (.int .i64 k) ∧ (k < 0 ↔ x < y) ∧ -1 ≤ k ∧ k ≤ 1 ∧ Below w.heap.size w w' := by
 go_enter Try.func49, Try.ntmps49
 go_wp2_with fail
 refine (isNaN_c x _).mono ?_
 rintro e w1 ⟨rfl, hb⟩
 go_wp2_with fail
 refine (isNaN_c y _).mono ?_
 rintro e w2 ⟨rfl, hb2⟩
 have HB := Lib.hid (hb.trans (hb2.mono hb.size))
 clear hb hb2
 rcases Int.lt_trichotomy x y with h | h | h
 ·
  have HX : Hid (x < y) := h
  go_wp2
  go_ret
  exact ⟨-1, rfl, ⟨fun _ => HX.out, fun _ => by omega⟩, by omega, by omega, HB.out⟩
 ·
  subst h
  go_wp2
  go_ret
  exact ⟨0, rfl, ⟨fun h => by omega, fun h => by omega⟩, by omega, by omega, HB.out⟩
 ·
  have h1 : ¬ x < y := by omega
  have HX : Hid (y < x) := h
  have h' : y < x := h
  go_wp2
  go_ret
  exact ⟨1, rfl, ⟨fun h => by omega, fun h => by have := HX.out; omega⟩, by omega, by omega, HB.out⟩
theorem cell_lt {w : World} {a : Addr} {v : Value} (h : w.cell? a = some v) : a.block < w.heap.size := by
 rcases Nat.lt_or_ge a.block w.heap.size with l | l
 · exact l
 ·
  have e : w.heap[a.block]? = none := Array.getElem?_eq_none l
  rw [World.cell?, e] at h; cases h
set_option maxHeartbeats 3200000 in
theorem lit_c {w0 : World} {n N : Nat} {A : Option Addr} {cA : Nat} {ps : List (Cv × List Tv)} {vs : Nat → List Nat} {s : Nat → Nat} (hS : Sys w0 n N A ps vs s) (X i j : Nat) (w : World) (hb0 : Below w0.heap.size w0 w) (hX : w.cell? ⟨X, 0, none⟩ = some (.slice A N cA)) (hi : i < N) (hj : j < N) :
  Calls Try.prog 48 #[.int .i64 (i : Int), .int .i64 (j : Int), .pointer (some ⟨X, 0, none⟩)] w fun e w' => ∃ k : Int, e = .returned (.int .i64 k) ∧ (k < 0 ↔ s i < s j) ∧ -1 ≤ k ∧ k ≤ 1 ∧ Below w.heap.size w w' := by
 have N9 := hS.N9
 obtain ⟨b1, o1, v1, h1⟩ := hS.con hb0 hi
 obtain ⟨b2, o2, v2, h2⟩ := hS.con hb0 hj
 have i0 : (0 : Int) ≤ (i : Int) := by omega
 have i1 : (i : Int) < (N : Int) := by omega
 have j0 : (0 : Int) ≤ (j : Int) := by omega
 have j1 : (j : Int) < (N : Int) := by omega
 obtain ⟨c0, _, _, _, _⟩ := h1.cells
 obtain ⟨d0, _, _, _, _⟩ := h2.cells
 rw [h1.s] at c0
 rw [h2.s] at d0
 have e : (some ⟨b1, o1, none⟩ : Option Addr) = some ⟨b2, o2, none⟩ := h1.adr.symm.trans h2.adr
 injection e with e
 injection e with e1 e2 _
 subst e1 e2
 rw [h1.adr] at hX
 have LX : Hid (X < w.heap.size ∧ b1 < w.heap.size) := ⟨cell_lt hX, h1.lt⟩
 have HB : Hid (Below w.heap.size w w.drew) := (Below.refl _ _).drew
 clear h1 h2
 go_enter Try.func48, Try.ntmps48
 go_wp2_with fail
 go_region_held3 (fun w' => w'.cell? ⟨X, 0, none⟩ = some (.slice (some ⟨b1, o1, none⟩) N cA) ∧ w'.cell? ⟨b1, o1 + i * 5, none⟩ = some (.int .i64 (s i : Int)) ∧ w'.cell? ⟨b1, o1 + j * 5, none⟩ = some (.int .i64 (s j : Int))) (go_keep)
  (first
  | (
    go_at_call 49
    refine (Compare_c _ _ _).mono ?_
    rintro ee w2 ⟨k, rfl, hk1, hk2, hk3, hb2⟩
    have hBX := Lib.hid (HB.out.trans (hb2.mono (Nat.le_refl _)))
    have HK := Lib.hid (And.intro hk1 (And.intro hk2 hk3))
    replace hX := (World.cell?_of_block (hb2.block X LX.out.1)).trans hX
    replace c0 := (World.cell?_of_block (hb2.block b1 LX.out.2)).trans c0
    replace d0 := (World.cell?_of_block (hb2.block b1 LX.out.2)).trans d0
    clear hb2 hk1 hk2 hk3))
 clear hX c0 d0
 go_wp2
 go_ret
 exact ⟨k, rfl, HK.out.1.trans (by omega), HK.out.2.1, HK.out.2.2, hBX.out⟩
def SR (s : Nat → Nat) (a b : Nat) : Prop := s a < s b ∨ (s a = s b ∧ a < b)
theorem SR.trans {s : Nat → Nat} {a b c : Nat} (h : SR s a b) (g : SR s b c) : SR s a c := by
 unfold SR at *; omega
structure InsO (s : Nat → Nat) (n i : Nat) (l : List Nat) : Prop where
 it : ∃ p, l = p ++ (List.range n).drop i ∧ p.Perm (List.range i) ∧ p.Pairwise (SR s)
structure InsI (s : Nat → Nat) (n i j : Nat) (l : List Nat) : Prop where
 it : ∃ p q, l = p ++ (i :: (q ++ (List.range n).drop (i + 1))) ∧ p.length = j ∧ (p ++ q).Perm (List.range i) ∧ (p ++ q).Pairwise (SR s) ∧ ∀ y ∈ q, SR s i y
theorem InsO.go {s : Nat → Nat} {n i : Nat} {l : List Nat} (h : InsO s n i l) (hi : i < n) : InsI s n i i l := by
 obtain ⟨p, rfl, h2, h3⟩ := h.it
 refine ⟨p, [], ?_, by rw [h2.length_eq, List.length_range], by simpa using h2, by simpa using h3, fun y hy => absurd hy List.not_mem_nil⟩
 rw [List.drop_eq_getElem_cons (by rw [List.length_range]; exact hi)]
 simp
theorem InsI.len {s : Nat → Nat} {n i j : Nat} {l : List Nat} (h : InsI s n i j l) (hi : i < n) : l.length = n ∧ j ≤ i := by
 obtain ⟨p, q, rfl, h2, h3, _⟩ := h.it
 have := h3.length_eq
 rw [List.length_append, List.length_range] at this
 simp
 omega
theorem InsI.at_ {s : Nat → Nat} {n i j : Nat} {l : List Nat} (h : InsI s n i j l) : rt l j = i := by
 obtain ⟨p, q, rfl, h2, _⟩ := h.it
 rw [rt_eq, List.getElem?_append_right (by omega), h2, Nat.sub_self]; rfl
theorem InsI.ahead {s : Nat → Nat} {n i j : Nat} {l : List Nat} (h : InsI s n i (j + 1) l) : rt l j < i ∧ (s i < s (rt l j) → InsI s n i j ((l.set (j + 1) (rt l j)).set j i)) ∧ (¬ s i < s (rt l j) → InsO s n (i + 1) l) := by
 obtain ⟨p, q, e, h2, h3, h4, h5⟩ := h.it
 have hp : p ≠ [] := fun k => by rw [k] at h2; simp at h2
 obtain ⟨p', y, rfl⟩ : ∃ p' y, p = p' ++ [y] := ⟨p.dropLast, p.getLast hp, (List.dropLast_concat_getLast hp).symm⟩
 have hl : p'.length = j := by simp at h2; exact h2
 have hy : rt l j = y := by rw [e, rt_eq, List.append_assoc, List.getElem?_append_right (by omega), hl, Nat.sub_self]; rfl
 have hyi : y < i := List.mem_range.1 (h3.mem_iff.1 (List.mem_append_left _ (List.mem_append_right _ (List.mem_singleton.2 rfl))))
 rw [hy]
 refine ⟨hyi, fun g => ⟨p', y :: q, ?_, hl, by simpa using h3, by simpa using h4, ?_⟩, fun g => ⟨p' ++ [y] ++ (i :: q), by rw [e]; simp, ?_, ?_⟩⟩
 ·
  rw [e, List.append_assoc, List.set_append_right _ _ (by omega), List.set_append_right _ _ (by omega), show j + 1 - p'.length = 1 by omega, show j - p'.length = 0 by omega]
  simp
 ·
  intro x hx
  rcases List.mem_cons.1 hx with rfl | hx
  · exact .inl g
  · exact h5 x hx
 ·
  rw [List.range_succ]
  refine List.Perm.trans ?_ (h3.append_right [i])
  rw [List.append_assoc (p' ++ [y])]
  exact List.Perm.append_left _ ((List.perm_append_comm (l₁ := [i]) (l₂ := q)))
 ·
  have yi : SR s y i := by
   rcases Nat.lt_or_ge (s y) (s i) with k | k
   · exact .inl k
   · exact .inr ⟨by omega, hyi⟩
  rw [List.pairwise_append] at h4 ⊢
  obtain ⟨k1, k2, k3⟩ := h4
  refine ⟨k1, List.pairwise_cons.2 ⟨h5, k2⟩, fun a ha b hb => ?_⟩
  rcases List.mem_cons.1 hb with rfl | hb
  ·
   rw [List.pairwise_append] at k1
   rcases List.mem_append.1 ha with ha | ha
   · exact (k1.2.2 a ha y (List.mem_singleton.2 rfl)).trans yi
   · rw [List.mem_singleton.1 ha]; exact yi
  · exact k3 a ha b hb
theorem InsI.first {s : Nat → Nat} {n i : Nat} {l : List Nat} (h : InsI s n i 0 l) : InsO s n (i + 1) l := by
 obtain ⟨p, q, e, h2, h3, h4, h5⟩ := h.it
 have hp : p = [] := List.eq_nil_of_length_eq_zero h2
 subst hp
 refine ⟨i :: q, by rw [e]; simp, ?_, List.pairwise_cons.2 ⟨h5, by simpa using h4⟩⟩
 rw [List.range_succ]
 exact ((List.perm_append_comm (l₁ := [i]) (l₂ := q))).trans ((by simpa using h3 : q.Perm (List.range i)).append_right [i])
theorem InsO.start {s : Nat → Nat} {n : Nat} (hn : 0 < n) : InsO s n 1 (List.range n) := by
 refine ⟨[0], ?_, List.Perm.refl _, List.pairwise_singleton _ _⟩
 obtain ⟨m, rfl⟩ : ∃ m, n = m + 1 := ⟨n - 1, by omega⟩
 rw [List.range_succ_eq_map]; rfl
theorem InsO.all {s : Nat → Nat} {n : Nat} {l : List Nat} (h : InsO s n n l) : l.Perm (List.range n) ∧ l.Pairwise (SR s) := by
 obtain ⟨p, e, h2, h3⟩ := h.it
 rw [List.drop_of_length_le (by simp), List.append_nil] at e
 subst e
 exact ⟨h2, h3⟩
end Go.Proofs.Ytjbhhccklfddaaa

namespace Go.Proofs.Ytjbhhccklfddaaa
set_option maxRecDepth 20000
open Go.RowKit
set_option maxHeartbeats 6400000 in
theorem insertion_c {w0 : World} {n N : Nat} {A : Option Addr} {cA : Nat} {ps : List (Cv × List Tv)} {vs : Nat → List Nat} {s : Nat → Nat} (hS : Sys w0 n N A ps vs s) (lo c g X : Nat) (w : World) (hb0 : Below w0.heap.size w0 w) (hlo : w0.heap.size ≤ lo) (hX : w.cell? ⟨X, 0, none⟩ = some (.slice A N cA)) (hXg : X ≠ g)
  (h : OwnN w lo (some ⟨g, 0, none⟩) c N (List.range N)) :
  Calls Try.prog 77 #[.slice (some ⟨g, 0, none⟩) N c, .int .i64 0, .int .i64 (N : Int), .func (.func 48) #[] #[.pointer (some ⟨X, 0, none⟩)]] w
   fun e w' => e = .returned (.tuple #[]) ∧ ∃ l, l.Perm (List.range N) ∧ l.Pairwise (SR s) ∧ OwnN w' lo (some ⟨g, 0, none⟩) c N l ∧ w.grownBy w' (some g) := by
 have N9 := hS.N9
 have HD := Lib.hid (And.intro hb0 (And.intro hlo hX))
 have HG := Lib.hid h.lt
 have N0 : (0 : Int) ≤ (N : Int) := by omega
 have N1 : (N : Int) ≤ 1000 := by omega
 have HS0 : Hid (OwnN w lo (some ⟨g, 0, none⟩) c N (List.range N) ∧ w.grownBy w (some g)) := ⟨h, grown_any (Below.refl _ _) _⟩
 clear hb0 hlo hX h
 go_enter Try.func77, Try.ntmps77
 go_wp2
 go_loopw [8] (fun iv wr => ∃ (i : Nat) (l : List Nat), 1 ≤ i ∧ i ≤ max 1 N ∧ iv = .int .i64 i ∧ Hid ((0 < N → InsO s N i l) ∧ (N = 0 → l = []) ∧ OwnN wr lo (some ⟨g, 0, none⟩) c N l ∧ w.grownBy wr (some g))) (fun iv _ => 1001 - (intOf iv).toNat)
 case atStart => exact ⟨1, List.range N, by omega, by omega, by go_num, Lib.hid ⟨fun h => InsO.start h, fun h => by rw [h]; rfl, HS0.out⟩⟩
 case round =>
  clear HS0
  obtain ⟨i, l, hi1, hi2, rfl, HS⟩ := hrel
  have i0 : (0 : Int) ≤ (i : Int) := by omega
  have i9 : (i : Int) ≤ 1001 := by omega
  by_cases hlt : i < N
  ·
   have i1 : (i : Int) < (N : Int) := by omega
   go_wp2
   go_loopw [9] (fun jv wr => ∃ (j : Nat) (l : List Nat), j ≤ i ∧ jv = .int .i64 j ∧ Hid (InsI s N i j l ∧ OwnN wr lo (some ⟨g, 0, none⟩) c N l ∧ w.grownBy wr (some g))) (fun jv _ => (intOf jv).toNat)
   case atStart => exact ⟨i, l, by omega, rfl, Lib.hid ⟨(HS.out.1 (by omega)).go hlt, HS.out.2.2⟩⟩
   case round =>
    clear HS
    obtain ⟨j, l, hj, rfl, HS⟩ := hrel
    have j0 : (0 : Int) ≤ (j : Int) := by omega
    have j1 : (j : Int) < (N : Int) := by omega
    by_cases hj0 : 0 < j
    ·
     obtain ⟨q, rfl⟩ : ∃ q, j = q + 1 := ⟨j - 1, by omega⟩
     have hpos : (0 : Int) < ((q + 1 : Nat) : Int) := by omega
     have wq : IntKind.i64.wrap (((q + 1 : Nat) : Int) - 1) = (q : Int) := by rw [IntKind.wrap_i64] <;> omega
     have q0 : (0 : Int) ≤ (q : Int) := by omega
     have q1 : (q : Int) < (N : Int) := by omega
     obtain ⟨p, hp⟩ : ∃ p, p = q + 1 := ⟨_, rfl⟩
     rw [← hp] at HS j0 j1 hpos wq hj hj0
     rw [← hp]
     have HP := Lib.hid hp
     have pN : p < N := by omega
     have qN : q < N := by omega
     clear hp
     obtain ⟨y, hy⟩ : ∃ y, y = rt l q := ⟨_, rfl⟩
     have cp := HS.out.2.1.cell pN
     have cq := HS.out.2.1.cell qN
     rw [HS.out.1.at_] at cp
     rw [← hy] at cq
     have HY : Hid (y < i ∧ (s i < s y → InsI s N i q ((l.set p y).set q i)) ∧ (¬ s i < s y → InsO s N (i + 1) l)) := by
      have h1 := HS.out.1
      rw [HP.out] at h1 ⊢
      rw [hy]
      exact h1.ahead
     clear hy
     have HB0 : Hid (Below w0.heap.size w0 wr) := HD.out.1.trans (below_of_grown_row HS.out.2.2 (by have := HG.out; have := HD.out.2.1; omega) HD.out.1.size)
     have HX : Hid (wr.cell? ⟨X, 0, none⟩ = some (.slice A N cA)) := (World.cell?_of_block (HS.out.2.2.block X (cell_lt HD.out.2.2) (by simp; omega))).trans HD.out.2.2
     have lg : g < wr.heap.size := HS.out.2.1.lt.2
     have yN : y < N := by have := HY.out.1; omega
     go_wp2_with fail
     go_region_held3 (fun w' => w'.cell? ⟨g, p, none⟩ = some (.int .i64 (i : Int)) ∧ w'.cell? ⟨g, q, none⟩ = some (.int .i64 (y : Int))) (go_keep)
      (first
      | (
        go_at_call 48
        refine (lit_c hS X i y _ HB0.out.drew HX.out hlt yN).mono ?_
        rintro ee w2 ⟨k, rfl, hk1, hk2, hk3, hb2⟩
        have HB2 : Hid (Below wr.heap.size wr w2) := (Below.refl _ _).drew.trans hb2
        have HK := Lib.hid (And.intro hk1 (And.intro hk2 hk3))
        replace cp := (World.cell?_of_block (hb2.block g lg)).trans cp
        replace cq := (World.cell?_of_block (hb2.block g lg)).trans cq
        clear hb2 hk1 hk2 hk3))
     have HO2 : Hid (OwnN w2 lo (some ⟨g, 0, none⟩) c N l ∧ w.grownBy w2 (some g)) := ⟨HS.out.2.1.below HB2.out, HS.out.2.2.trans (grown_any HB2.out _)⟩
     clear HS HB0 HX lg
     by_cases hsy : s i < s y
     ·
      have hk : k < 0 := HK.out.1.2 hsy
      have tp := HO2.out.1.thaw p
      have tq := HO2.out.1.thaw q
      have hpq : q ≠ p := by have := HP.out; omega
      have hpq2 : p ≠ q := fun e => hpq e.symm
      have HS2 : Hid (InsI s N i q ((l.set p y).set q i) ∧ OwnN ((w2.setCell ⟨g, p, none⟩ (.int .i64 (y : Int))).setCell ⟨g, q, none⟩ (.int .i64 (i : Int))) lo (some ⟨g, 0, none⟩) c N ((l.set p y).set q i) ∧ w.grownBy ((w2.setCell ⟨g, p, none⟩ (.int .i64 (y : Int))).setCell ⟨g, q, none⟩ (.int .i64 (i : Int))) (some g)) :=
       ⟨HY.out.2.1 hsy, (HO2.out.1.set p y).set q i, (HO2.out.2.trans (set_grown w2 g p _)).trans (set_grown _ g q _)⟩
      clear hsy HK HY HB2 HO2
      go_wp2_with fail
      clear hk
      go_region
      have HS3 : Hid (InsI s N i q ((l.set p y).set q i) ∧ OwnN ((w2.setCell ⟨g, p, none⟩ (.int .i64 (y : Int))).setCell ⟨g, q, none⟩ (.int .i64 (i : Int))).drew lo (some ⟨g, 0, none⟩) c N ((l.set p y).set q i) ∧ w.grownBy ((w2.setCell ⟨g, p, none⟩ (.int .i64 (y : Int))).setCell ⟨g, q, none⟩ (.int .i64 (i : Int))).drew (some g)) := ⟨HS2.out.1, HS2.out.2.1.drew, HS2.out.2.2.trans (grown_any (Below.refl _ _).drew _)⟩
      clear HS2 cp cq tp tq
      generalize ((w2.setCell ⟨g, p, none⟩ (.int .i64 (y : Int))).setCell ⟨g, q, none⟩ (.int .i64 (i : Int))).drew = w3 at *
      go_wp2
      go_roundw
      case rel => exact ⟨q, (l.set p y).set q i, by have := HP.out; omega, by go_num, HS3⟩
      case measure => have := HP.out; simp [intOf]; omega
     ·
      have hk : ¬ k < 0 := fun e => hsy (HK.out.1.1 e)
      have HS3 : Hid ((0 < N → InsO s N (i + 1) l) ∧ (N = 0 → l = []) ∧ OwnN w2 lo (some ⟨g, 0, none⟩) c N l ∧ w.grownBy w2 (some g)) := ⟨fun _ => HY.out.2.2 hsy, fun e => by omega, HO2.out⟩
      clear hsy HK HY HB2 HO2 cp cq
      go_wp2
      go_roundw
      case rel => exact ⟨i + 1, l, by omega, by omega, by go_num, HS3⟩
      case measure => simp [intOf]; omega
    ·
     obtain rfl : j = 0 := by omega
     have hz : ¬ (0 : Int) < ((0 : Nat) : Int) := by omega
     have HS3 : Hid ((0 < N → InsO s N (i + 1) l) ∧ (N = 0 → l = []) ∧ OwnN wr.drew lo (some ⟨g, 0, none⟩) c N l ∧ w.grownBy wr.drew (some g)) := ⟨fun _ => HS.out.1.first, fun e => by omega, HS.out.2.1.drew, HS.out.2.2.trans (grown_any (Below.refl _ _).drew _)⟩
     go_wp2_with fail
     go_region
     clear HS
     generalize wr.drew = w3 at *
     go_wp2
     go_roundw
     case rel => exact ⟨i + 1, l, by omega, by omega, by go_num, HS3⟩
     case measure => simp [intOf]; omega
  ·
   have i1 : ¬ (i : Int) < (N : Int) := by omega
   have HF : Hid (l.Perm (List.range N) ∧ l.Pairwise (SR s)) := by
    rcases Nat.eq_zero_or_pos N with e | e
    · rw [HS.out.2.1 e, e]; exact ⟨List.Perm.refl _, List.Pairwise.nil⟩
    ·
     have h1 := HS.out.1 e
     have e2 : i = N := by omega
     rw [e2] at h1
     exact h1.all
   go_wp2
   refine bodyPost_end (results_none rfl _ _ _) rfl ?_
   exact ⟨rfl, l, HF.out.1, HF.out.2, HS.out.2.2⟩
end Go.Proofs.Ytjbhhccklfddaaa

namespace Go.Proofs.Ytjbhhccklfddaaa
set_option maxRecDepth 20000
open Go.RowKit
set_option maxHeartbeats 6400000 in
theorem stable_c {w0 : World} {n N : Nat} {A : Option Addr} {cA : Nat} {ps : List (Cv × List Tv)} {vs : Nat → List Nat} {s : Nat → Nat} (hS : Sys w0 n N A ps vs s) (hN : N ≤ 19) (lo c g X : Nat) (w : World) (hb0 : Below w0.heap.size w0 w) (hlo : w0.heap.size ≤ lo) (hX : w.cell? ⟨X, 0, none⟩ = some (.slice A N cA)) (hXg : X ≠ g)
  (h : OwnN w lo (some ⟨g, 0, none⟩) c N (List.range N)) :
  Calls Try.prog 61 #[.slice (some ⟨g, 0, none⟩) N c, .int .i64 (N : Int), .func (.func 48) #[] #[.pointer (some ⟨X, 0, none⟩)]] w
   fun e w' => e = .returned (.tuple #[]) ∧ ∃ l, l.Perm (List.range N) ∧ l.Pairwise (SR s) ∧ OwnN w' lo (some ⟨g, 0, none⟩) c N l ∧ w.grownBy w' (some g) := by
 have N0 : (0 : Int) ≤ (N : Int) := by omega
 have N1 : (N : Int) ≤ 19 := by omega
 have HD := Lib.hid (And.intro hb0 (And.intro hlo (And.intro hX h)))
 clear hb0 hlo hX h
 go_enter Try.func61, Try.ntmps61
 go_wp2
 go_loopw [7, 8] (fun av bv wr => av = .int .i64 0 ∧ bv = .int .i64 20 ∧ w = wr) (fun _ _ _ => 0)
 case atStart => exact ⟨rfl, rfl, rfl⟩
 case round =>
  obtain ⟨rfl, rfl, rfl⟩ := hrel
  have hk : ¬ (20 : Int) ≤ (N : Int) := by omega
  go_wp2_with fail
  refine (insertion_c hS lo c g X w HD.out.1 HD.out.2.1 HD.out.2.2.1 hXg HD.out.2.2.2).mono ?_
  rintro e w2 ⟨rfl, hl⟩
  have HL := Lib.hid hl
  clear hl
  go_wp2
  go_loopw [6] (fun sv wr => sv = .int .i64 20 ∧ w2 = wr) (fun _ _ => 0)
  case atStart => exact ⟨rfl, rfl⟩
  case round =>
   obtain ⟨rfl, rfl⟩ := hrel
   have hk : ¬ (20 : Int) < (N : Int) := by omega
   go_wp2
   refine bodyPost_end (results_none rfl _ _ _) rfl ?_
   exact ⟨rfl, HL.out⟩
set_option maxHeartbeats 3200000 in
theorem SortStable_c {w0 : World} {n N : Nat} {A : Option Addr} {cA : Nat} {ps : List (Cv × List Tv)} {vs : Nat → List Nat} {s : Nat → Nat} (hS : Sys w0 n N A ps vs s) (hN : N ≤ 19) (lo c g X : Nat) (w : World) (hb0 : Below w0.heap.size w0 w) (hlo : w0.heap.size ≤ lo) (hX : w.cell? ⟨X, 0, none⟩ = some (.slice A N cA)) (hXg : X ≠ g)
  (h : OwnN w lo (some ⟨g, 0, none⟩) c N (List.range N)) :
  Calls Try.prog 47 #[.slice (some ⟨g, 0, none⟩) N c, .func (.func 48) #[] #[.pointer (some ⟨X, 0, none⟩)]] w
   fun e w' => e = .returned (.tuple #[]) ∧ ∃ l, l.Perm (List.range N) ∧ l.Pairwise (SR s) ∧ OwnN w' lo (some ⟨g, 0, none⟩) c N l ∧ w.grownBy w' (some g) := by
 have HD := Lib.hid (And.intro hb0 (And.intro hlo (And.intro hX h)))
 clear hb0 hlo hX h
 go_enter Try.func47, Try.ntmps47
 go_wp2_with fail
 refine (stable_c hS hN lo c g X w HD.out.1 HD.out.2.1 HD.out.2.2.1 hXg HD.out.2.2.2).mono ?_
 rintro e w2 ⟨rfl, hs⟩
 have HS2 := Lib.hid hs
 clear hs
 go_wp2
 refine bodyPost_end (results_none rfl _ _ _) rfl ?_
 exact ⟨rfl, HS2.out⟩
set_option maxHeartbeats 6400000 in
theorem byStrength_c {w0 : World} {n N : Nat} {A : Option Addr} {cA : Nat} {ps : List (Cv × List Tv)} {vs : Nat → List Nat} {s : Nat → Nat} (hS : Sys w0 n N A ps vs s) (hN : N ≤ 19) (w : World) (hb0 : Below w0.heap.size w0 w) :
  Calls Try.prog 27 #[.slice A N cA] w fun e w' => ∃ g c l, e = .returned (.slice (some ⟨g, 0, none⟩) N c) ∧ l.Perm (List.range N) ∧ l.Pairwise (SR s) ∧ OwnN w' w.heap.size (some ⟨g, 0, none⟩) c N l ∧ Below w.heap.size w w' := by
 obtain ⟨i0, hi, hz0, hz1, hz2⟩ := info_parts Try.info3
 have N0 : (0 : Int) ≤ (N : Int) := by omega
 have N1 : (N : Int) ≤ 19 := by omega
 have HD := Lib.hid hb0
 clear hb0
 have hX : (w.alloc (.cells #[.slice A N cA] 22)).cell? ⟨w.heap.size, 0, none⟩ = some (.slice A N cA) := by rw [World.cell?_alloc_at _ _ _ _ rfl]; rfl
 have HB : Hid (Below w.heap.size w (w.alloc (.cells #[.slice A N cA] 22))) := (Below.refl _ _).alloc (Nat.le_refl _) _
 have HZ : Hid ((w.alloc (.cells #[.slice A N cA] 22)).heap.size = w.heap.size + 1) := by show _ = _; simp
 go_enter Try.func27, Try.ntmps27
 go_wp2_with (at_make; refine wpList_make_full _ rfl _ _ _ rfl (w.heap.size + 1) 3 i0 (.int .i64 0) 1 Try.underlying23 hi hz0 hz1 .i64 .i64 _ _ N rfl rfl (by first | rfl | omega) (by first | rfl | omega) (by first | omega | (rw [hz2]; omega)) (by unfold maxLen; omega) (by rw [HZ.out]; exact Nat.le_refl _) ?_)
 intro w1 ho hg
 have HO : Hid (OwnN w1 (w.heap.size + 1) (some ⟨w.heap.size + 1, 0, none⟩) N N (List.replicate N 0) ∧ Below (w.heap.size + 1) (w.alloc (.cells #[.slice A N cA] 22)) w1) := ⟨OwnN.made ho, (below_of_grown hg).mono (by rw [HZ.out]; exact Nat.le_refl _)⟩
 have hX1 := (World.cell?_of_block (HO.out.2.block w.heap.size (by omega))).trans hX
 have HBw : Hid (Below w.heap.size w w1) := HB.out.trans (HO.out.2.mono (by omega))
 have HO0 : Hid (OwnN w1 (w.heap.size + 1) (some ⟨w.heap.size + 1, 0, none⟩) N N (halfR N 0)) := HO.out.1
 clear ho hg hX HO HB HZ hz0 hz1 hz2 hi
 obtain ⟨X, hXd⟩ : ∃ X, X = w.heap.size := ⟨_, rfl⟩
 have HXd := Lib.hid hXd
 rw [← hXd] at HBw HO0 hX1 ⊢
 have HX1 := Lib.hid hX1
 clear hXd hX1
 go_wp2
 go_loopw [4, 10] (fun _ iv wr => ∃ k : Nat, k ≤ N ∧ iv = .int .i64 k ∧ Hid (OwnN wr (X + 1) (some ⟨X + 1, 0, none⟩) N N (halfR N k) ∧ Below (X + 1) w1 wr)) (fun _ iv _ => N - (intOf iv).toNat)
 case atStart => exact ⟨0, Nat.zero_le _, rfl, Lib.hid ⟨HO0.out, Below.refl _ _⟩⟩
 case round =>
  clear HO0
  obtain ⟨k, hk, rfl, HO⟩ := hrel
  have k0 : (0 : Int) ≤ (k : Int) := by omega
  by_cases hlt : k < N
  ·
   have k1 : (k : Int) < (N : Int) := by omega
   have c0 := HO.out.1.cell hlt
   have t0 := HO.out.1.thaw k
   have HO2 : Hid (OwnN (wr.setCell ⟨X + 1, k, none⟩ (.int .i64 (k : Int))) (X + 1) (some ⟨X + 1, 0, none⟩) N N (halfR N (k + 1)) ∧ Below (X + 1) w1 (wr.setCell ⟨X + 1, k, none⟩ (.int .i64 (k : Int)))) :=
    ⟨halfR_step hlt ▸ HO.out.1.set k k, set_at (Nat.le_refl _) _ _ HO.out.2⟩
   go_wp2
   go_roundw
   case rel => exact ⟨k + 1, by omega, by go_num, HO2⟩
   case measure => simp [intOf]; omega
  ·
   have e : k = N := by omega
   have k1 : ¬ (k : Int) < (N : Int) := by omega
   have HO2 : Hid (OwnN wr (X + 1) (some ⟨X + 1, 0, none⟩) N N (List.range N) ∧ Below (X + 1) w1 wr) := by
    have := HO.out
    rw [e, halfR_all] at this
    exact this
   clear e HO
   go_wp2_with fail
   refine (SortStable_c hS hN (X + 1) N (X + 1) X wr (HD.out.trans ((HBw.out.trans (HO2.out.2.mono (by omega))).mono (by have := HD.out.size; have := HXd.out; omega))) (by have := HD.out.size; have := HXd.out; omega) ((World.cell?_of_block (HO2.out.2.block X (by omega))).trans HX1.out) (by omega) HO2.out.1).mono ?_
   rintro e w2 ⟨rfl, l, hp, hpw, ho, hg⟩
   have HF : Hid (l.Perm (List.range N) ∧ l.Pairwise (SR s) ∧ OwnN w2 (X + 1) (some ⟨X + 1, 0, none⟩) N N l ∧ Below X w w2) := ⟨hp, hpw, ho, (HBw.out.trans (HO2.out.2.mono (by omega))).trans (below_of_grown_row hg (by omega) (by have := HO2.out.1.lt; omega))⟩
   clear hp hpw ho hg
   go_wp2
   go_ret
   refine ⟨X + 1, N, l, rfl, HF.out.1, HF.out.2.1, ?_, ?_⟩
   · rw [← HXd.out]; exact HF.out.2.2.1.lower (by omega)
   · rw [← HXd.out]; exact HF.out.2.2.2
end Go.Proofs.Ytjbhhccklfddaaa
