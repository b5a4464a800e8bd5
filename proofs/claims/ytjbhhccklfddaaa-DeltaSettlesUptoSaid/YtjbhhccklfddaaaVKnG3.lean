/-
  Two rows of ints compared, by the law.
  What is known of two sums, by the law.
-/
import Derived.Test.YtjbhhccklfddaaaVDlG
import Derived.Test.YtjbhhccklfddaaaVKnM3
import Derived.Deep.Cut
import Derived.OrdersHeld
import Derived.Test.YtjbhhccklfddaaaVRgn
namespace Go.Proofs.Ytjbhhccklfddaaa
set_option maxRecDepth 20000
open Go.RowKit
set_option maxHeartbeats 3200000 in
theorem numbers_c (A B : Option Addr) (n m ca cb : Nat) (l k : List Int) (w : World) (h : ZRow w A n l) (g : ZRow w B m k) (hn : n ≤ 2000000) (hm : m ≤ 2000000) :
  Calls Try.prog 14 #[.slice A n ca, .slice B m cb] w fun e w' => BPost (l = k) e ∧ Below w.heap.size w w' := by
 have n0 : (0 : Int) ≤ (n : Int) := by omega
 have n9 : (n : Int) ≤ 2000000 := by omega
 have H := Lib.hid (And.intro h g)
 have hl := Lib.hid h.len
 have hk := Lib.hid g.len
 clear h g
 by_cases hnm : n = m
 ·
  subst hnm
  have HR0 : Hid ((∀ j, j < 0 → zt l j = zt k j) ∧ Below w.heap.size w w) := ⟨fun j hj => absurd hj (Nat.not_lt_zero _), Below.refl _ _⟩
  go_enter Try.func14, Try.ntmps14
  go_wp2
  go_loopw [5] (fun iv wr => ∃ i : Nat, i ≤ n ∧ iv = .int .i64 i ∧ Hid ((∀ j, j < i → zt l j = zt k j) ∧ Below w.heap.size w wr)) (fun iv _ => n - (intOf iv).toNat)
  case atStart => exact ⟨0, Nat.zero_le _, rfl, HR0⟩
  case round =>
   clear HR0
   obtain ⟨i, hi, rfl, HR⟩ := hrel
   have i0 : (0 : Int) ≤ (i : Int) := by omega
   by_cases hlt : i < n
   ·
    have i1 : (i : Int) < (n : Int) := by omega
    obtain ⟨ba, oa, ea, _, ha⟩ := (H.out.1.below HR.out.2).mem (by omega)
    obtain ⟨bb, ob, eb, _, hb⟩ := (H.out.2.below HR.out.2).mem (by omega)
    have c0 := ha i hlt
    have c1 := hb i hlt
    clear ha hb
    subst ea eb
    obtain ⟨x, hx⟩ : ∃ x, x = zt l i := ⟨_, rfl⟩
    obtain ⟨y, hy⟩ : ∃ y, y = zt k i := ⟨_, rfl⟩
    rw [← hx] at c0
    rw [← hy] at c1
    have HXY := Lib.hid (And.intro hx hy)
    clear hx hy
    go_wp2
    go_region_held3 (fun w' => w'.cell? ⟨ba, oa + i, none⟩ = some (.int .i64 x) ∧ w'.cell? ⟨bb, ob + i, none⟩ = some (.int .i64 y)) (go_keep) (fail)
    by_cases hxy : x = y
    ·
     have HS1 : Hid ((∀ j, j < i + 1 → zt l j = zt k j) ∧ Below w.heap.size w wr.drew) := ⟨fun j hj => by
      by_cases e : j = i
      · rw [e, ← HXY.out.1, ← HXY.out.2, hxy]
      · exact HR.out.1 j (by omega), HR.out.2.drew⟩
     go_wp2
     go_roundw
     case rel => exact ⟨i + 1, by omega, by go_num, HS1⟩
     case measure => simp [intOf]; omega
    ·
     have HS1 : Hid (l ≠ k ∧ Below w.heap.size w wr.drew) := ⟨fun e => hxy (by rw [HXY.out.1, HXY.out.2, e]), HR.out.2.drew⟩
     go_wp2
     go_ret
     exact ⟨BPost.no HS1.out.1 rfl, HS1.out.2⟩
   ·
    have i1 : ¬ (i : Int) < (n : Int) := by omega
    have e : l = k := zt_ext (hl.out.trans hk.out.symm) fun v hv => HR.out.1 v (by have := hl.out; omega)
    have HB := Lib.hid (And.intro e HR.out.2)
    clear HR e
    go_wp2
    go_ret
    exact ⟨BPost.yes HB.out.1 rfl, HB.out.2⟩
 ·
  have h1 : ¬ (n : Int) = (m : Int) := by omega
  have HN : Hid (l ≠ k) := fun e => hnm (by rw [← hl.out, ← hk.out, e])
  clear hnm
  go_enter Try.func14, Try.ntmps14
  go_wp2
  go_ret
  exact ⟨BPost.no HN.out rfl, Below.refl _ _⟩
end Go.Proofs.Ytjbhhccklfddaaa

namespace Go.Proofs.Ytjbhhccklfddaaa
set_option maxRecDepth 20000
open Go.RowKit
theorem two_ints {w : World} {G : Nat} {x y : Int} (h : w.heap[G]? = some (.cells #[.int .i64 x, .int .i64 y] 3 (0, 0))) : ZRow w (some ⟨G, 0, none⟩) 2 [x, y] :=
 ⟨rfl, fun _ => ⟨G, 0, rfl, (Array.getElem?_eq_some_iff.1 h).1, fun j hj => by
  have : j = 0 ∨ j = 1 := by omega
  rcases this with rfl | rfl <;> (rw [cell_of_row _ _ _ _ _ _ h]; rfl)⟩⟩
set_option maxHeartbeats 25600000 in
theorem known13_c (w : World) : Calls Try.prog 19 #[] w fun e w' => e = .returned (.bool true) ∧ Below w.heap.size w w' := by
 go_enter Try.func19, Try.ntmps19
 go_wp2_with fail
 refine (rInt_c 1 _ (by omega)).mono ?_
 rintro e w1 ⟨z1, rfl, hz1, hb1⟩
 go_upto_region 2 with fail
 have HK1 : Hid (C3 (w1.alloc (.cells #[.bool z1.s, .slice z1.A z1.n z1.c, .slice z1.B z1.m z1.d] 37)) w1.heap.size (.bool z1.s) (.slice z1.A z1.n z1.c) (.slice z1.B z1.m z1.d) ∧ Below w.heap.size w (w1.alloc (.cells #[.bool z1.s, .slice z1.A z1.n z1.c, .slice z1.B z1.m z1.d] 37)) ∧ Rt (w1.alloc (.cells #[.bool z1.s, .slice z1.A z1.n z1.c, .slice z1.B z1.m z1.d] 37)) 0 z1 ((1 : Int) : Rat)) := ⟨C3.new w1 (.bool z1.s) (.slice z1.A z1.n z1.c) (.slice z1.B z1.m z1.d), hb1.alloc hb1.size _, (hz1.below ((Below.refl _ _).alloc (Nat.le_refl _) _)).lower (Nat.zero_le _)⟩
 clear hz1 hb1
 generalize w1.alloc (.cells #[.bool z1.s, .slice z1.A z1.n z1.c, .slice z1.B z1.m z1.d] 37) = W at *
 obtain ⟨X1, hX1⟩ : ∃ X1, X1 = w1.heap.size := ⟨_, rfl⟩
 rw [← hX1] at HK1
 rw [← hX1]
 clear hX1
 have HAL : Hid (∀ w', Below W.heap.size W w' → (w'.cell? ⟨X1, 0, none⟩ = some (.bool z1.s) ∧ w'.cell? ⟨X1, 1, none⟩ = some (.slice z1.A z1.n z1.c) ∧ w'.cell? ⟨X1, 2, none⟩ = some (.slice z1.B z1.m z1.d) ∧ w'.frozen? ⟨X1, 0, none⟩ = false ∧ w'.frozen? ⟨X1, 1, none⟩ = false ∧ w'.frozen? ⟨X1, 2, none⟩ = false)) := fun w' h => (HK1.out.1.below h).facts
 have HXL : Hid (X1 < W.heap.size) := HK1.out.1.lt
 have HZ1 := Lib.hid HK1.out.2.2
 obtain ⟨x0, x1, x2, _, _, _⟩ := HAL.out _ (Below.refl _ _)
 go_cut [2] from 7 (fun xv wx => ∃ (Y G : Nat) (z2 za : Rv), xv = .pointer (some ⟨Y, 0, none⟩) ∧ Hid (KinAt W wx Y G z1 z2 za ((1 : Int) : Rat) ((-1 : Int) : Rat) ((0 : Int) : Rat)))
 case first =>
  refine wp_region_held_drew (S := fun w' => w'.cell? ⟨X1, 0, none⟩ = some (.bool z1.s) ∧ w'.cell? ⟨X1, 1, none⟩ = some (.slice z1.A z1.n z1.c) ∧ w'.cell? ⟨X1, 2, none⟩ = some (.slice z1.B z1.m z1.d)) (by kernel_rfl) ?_ (fun hHeld => ?_)
  ·
   (try dsimp only)
   go_keep
  refine tk (i := 0) (h := ?_)
  try simp only [zR]
  refine tk (i := 1) (h := ?_)
  try simp only [zR]
  refine tr [2, 7] ?_
  refine tc (h := fun K hK => ?_) (hs := tc (h := fun K hK => ?_) (hs := tn))
  ·
   skip
   try go_simp
   go_at_call 23
   refine (rInt_c (-1) _ (by omega)).mono ?_
   rintro e w2 ⟨z2, rfl, hz, hb⟩
   have Z2 := Lib.hid (hz.lower (Nat.zero_le _))
   have B2 := Lib.hid ((bel1 W).trans hb)
   clear hz hb
   clear x0 x1 x2
   obtain ⟨x0, x1, x2, _, _, _⟩ := HAL.out _ B2.out
   try go_wp2_with fail
   refine hK.out _ _ ?_ (fun hHeld => ?_)
   · (try dsimp only); go_keep
   clear hK K
   try simp only [zR]
   refine tk (i := 3) (h := ?_)
   try simp only [zR]
   refine tr [4, 5, 7] ?_
   refine tc (h := fun K hK => ?_) (hs := tc (h := fun K hK => ?_) (hs := tc (h := fun K hK => ?_) (hs := tn)))
   ·
    skip
    try go_simp
    try go_wp2_with fail
    refine hK.out _ _ ?_ (fun hHeld => ?_)
    · (try dsimp only); go_keep
    clear hK K
    try simp only [zR]
    have B4 : Hid (Below w2.heap.size w2 (w2.alloc (.cells #[.int .i64 0, .bool z1.s, .slice z1.A z1.n z1.c, .slice z1.B z1.m z1.d, .int .i64 1, .bool z2.s, .slice z2.A z2.n z2.c, .slice z2.B z2.m z2.d] 40))) := ((Below.refl _ _).alloc (Nat.le_refl _) _)
    have G4 : Hid ((w2.alloc (.cells #[.int .i64 0, .bool z1.s, .slice z1.A z1.n z1.c, .slice z1.B z1.m z1.d, .int .i64 1, .bool z2.s, .slice z2.A z2.n z2.c, .slice z2.B z2.m z2.d] 40)).heap[w2.heap.size]? = some (.cells #[.int .i64 0, .bool z1.s, .slice z1.A z1.n z1.c, .slice z1.B z1.m z1.d, .int .i64 1, .bool z2.s, .slice z2.A z2.n z2.c, .slice z2.B z2.m z2.d] 40 (0, 0)) ∧ w2.heap.size < (w2.alloc (.cells #[.int .i64 0, .bool z1.s, .slice z1.A z1.n z1.c, .slice z1.B z1.m z1.d, .int .i64 1, .bool z2.s, .slice z2.A z2.n z2.c, .slice z2.B z2.m z2.d] 40)).heap.size) := ⟨heap_alloc_new w2 _, by simp⟩
    generalize (w2.alloc (.cells #[.int .i64 0, .bool z1.s, .slice z1.A z1.n z1.c, .slice z1.B z1.m z1.d, .int .i64 1, .bool z2.s, .slice z2.A z2.n z2.c, .slice z2.B z2.m z2.d] 40)) = w4 at *
    clear x0 x1 x2
    obtain ⟨x0, x1, x2, _, _, _⟩ := HAL.out _ (B2.out.trans (B4.out.mono B2.out.size))
    refine tr [5, 7] ?_
    refine tc (h := fun K hK => ?_) (hs := tc (h := fun K hK => ?_) (hs := tn))
    ·
     skip
     try go_simp
     go_at_call 23
     refine (rInt_c (0) _ (by omega)).mono ?_
     rintro e w5 ⟨za, rfl, hz, hb⟩
     have Z5 := Lib.hid (hz.lower (Nat.zero_le _))
     have B5 := Lib.hid hb
     clear hz hb
     clear x0 x1 x2
     obtain ⟨x0, x1, x2, _, _, _⟩ := HAL.out _ ((B2.out.trans (B4.out.mono B2.out.size)).trans (B5.out.mono (B2.out.trans (B4.out.mono B2.out.size)).size))
     try go_wp2_with fail
     refine hK.out _ _ ?_ (fun hHeld => ?_)
     · (try dsimp only); go_keep
     clear hK K
     try simp only [zR]
     refine tk (i := 6) (h := ?_)
     try simp only [zR]
     refine tr [7] ?_
     refine tc (h := fun K hK => ?_) (hs := tn)
     try go_simp
     try go_wp2_with fail
     refine hK.out _ _ ?_ (fun hHeld => ?_)
     · (try dsimp only); go_keep
     clear hK K
     try simp only [zR]
     have B7 : Hid (Below w5.heap.size w5 (w5.alloc (.cells #[.int .i64 0, .slice none 0 0, .bool false, .slice none 0 0, .slice none 0 0] 43))) := ((Below.refl _ _).alloc (Nat.le_refl _) _)
     have Y7 : Hid (C5 (w5.alloc (.cells #[.int .i64 0, .slice none 0 0, .bool false, .slice none 0 0, .slice none 0 0] 43)) w5.heap.size (.int .i64 0) (.slice none 0 0) (.bool false) (.slice none 0 0) (.slice none 0 0)) := C5.new w5 (.int .i64 0) (.slice none 0 0) (.bool false) (.slice none 0 0) (.slice none 0 0)
     generalize (w5.alloc (.cells #[.int .i64 0, .slice none 0 0, .bool false, .slice none 0 0, .slice none 0 0] 43)) = w7 at *
     clear x0 x1 x2
     obtain ⟨x0, x1, x2, _, _, _⟩ := HAL.out _ (((B2.out.trans (B4.out.mono B2.out.size)).trans (B5.out.mono (B2.out.trans (B4.out.mono B2.out.size)).size)).trans (B7.out.mono ((B2.out.trans (B4.out.mono B2.out.size)).trans (B5.out.mono (B2.out.trans (B4.out.mono B2.out.size)).size)).size))
     have kY := Y7.out.below (Below.refl _ _)
     obtain ⟨y0, y1, y2, y3, y4⟩ := kY.facts
     obtain ⟨t0, t1, t2, t3, t4⟩ := kY.thaw
     clear kY
     have mA : ¬ X1 = w5.heap.size := by have := HXL.out; have := ((B2.out.trans (B4.out.mono B2.out.size)).trans (B5.out.mono (B2.out.trans (B4.out.mono B2.out.size)).size)).size; omega
     have mB : ¬ w5.heap.size = X1 := fun e => mA e.symm
     refine tr [8] ?_
     refine tc (h := fun K hK => ?_) (hs := tn)
     try go_simp
     try go_wp2_with fail
     refine hK.out _ _ ?_ (fun hHeld => ?_)
     · (try dsimp only); go_keep
     clear hK K
     try simp only [zR]
     refine wpAnyH_done (by kernel_rfl) ?_ _
     go_wp2_with fail
     go_meet
     exact ⟨_, _, z2, za, rfl, Lib.hid (KinAt.put (Y7.out.below (Below.refl _ _)) (((B2.out.trans (B4.out.mono B2.out.size)).trans (B5.out.mono (B2.out.trans (B4.out.mono B2.out.size)).size)).size) (((B2.out.trans (B4.out.mono B2.out.size)).trans (B5.out.mono (B2.out.trans (B4.out.mono B2.out.size)).size)).trans (B7.out.mono ((B2.out.trans (B4.out.mono B2.out.size)).trans (B5.out.mono (B2.out.trans (B4.out.mono B2.out.size)).size)).size)) ⟨((B5.out.trans (B7.out.mono B5.out.size)).block _ G4.out.2).trans G4.out.1, (HZ1.out.below (((B2.out.trans (B4.out.mono B2.out.size)).trans (B5.out.mono (B2.out.trans (B4.out.mono B2.out.size)).size)).trans (B7.out.mono ((B2.out.trans (B4.out.mono B2.out.size)).trans (B5.out.mono (B2.out.trans (B4.out.mono B2.out.size)).size)).size))), (Z2.out.below ((B4.out.trans (B5.out.mono B4.out.size)).trans (B7.out.mono (B4.out.trans (B5.out.mono B4.out.size)).size))), (Z5.out.below B7.out)⟩)⟩
    ·
     skip
     try go_simp
     try go_wp2_with fail
     refine hK.out _ _ ?_ (fun hHeld => ?_)
     · (try dsimp only); go_keep
     clear hK K
     try simp only [zR]
     have B7 : Hid (Below w4.heap.size w4 (w4.alloc (.cells #[.int .i64 0, .slice none 0 0, .bool false, .slice none 0 0, .slice none 0 0] 43))) := ((Below.refl _ _).alloc (Nat.le_refl _) _)
     have Y7 : Hid (C5 (w4.alloc (.cells #[.int .i64 0, .slice none 0 0, .bool false, .slice none 0 0, .slice none 0 0] 43)) w4.heap.size (.int .i64 0) (.slice none 0 0) (.bool false) (.slice none 0 0) (.slice none 0 0)) := C5.new w4 (.int .i64 0) (.slice none 0 0) (.bool false) (.slice none 0 0) (.slice none 0 0)
     generalize (w4.alloc (.cells #[.int .i64 0, .slice none 0 0, .bool false, .slice none 0 0, .slice none 0 0] 43)) = w7 at *
     clear x0 x1 x2
     obtain ⟨x0, x1, x2, _, _, _⟩ := HAL.out _ ((B2.out.trans (B4.out.mono B2.out.size)).trans (B7.out.mono (B2.out.trans (B4.out.mono B2.out.size)).size))
     refine tr [5] ?_
     refine tc (h := fun K hK => ?_) (hs := tn)
     try go_simp
     go_at_call 23
     refine (rInt_c (0) _ (by omega)).mono ?_
     rintro e w5 ⟨za, rfl, hz, hb⟩
     have Z5 := Lib.hid (hz.lower (Nat.zero_le _))
     have B5 := Lib.hid hb
     clear hz hb
     clear x0 x1 x2
     obtain ⟨x0, x1, x2, _, _, _⟩ := HAL.out _ (((B2.out.trans (B4.out.mono B2.out.size)).trans (B7.out.mono (B2.out.trans (B4.out.mono B2.out.size)).size)).trans (B5.out.mono ((B2.out.trans (B4.out.mono B2.out.size)).trans (B7.out.mono (B2.out.trans (B4.out.mono B2.out.size)).size)).size))
     have kY := Y7.out.below B5.out
     obtain ⟨y0, y1, y2, y3, y4⟩ := kY.facts
     obtain ⟨t0, t1, t2, t3, t4⟩ := kY.thaw
     clear kY
     have mA : ¬ X1 = w4.heap.size := by have := HXL.out; have := (B2.out.trans (B4.out.mono B2.out.size)).size; omega
     have mB : ¬ w4.heap.size = X1 := fun e => mA e.symm
     try go_wp2_with fail
     refine hK.out _ _ ?_ (fun hHeld => ?_)
     · (try dsimp only); go_keep
     clear hK K
     try simp only [zR]
     refine tk (i := 6) (h := ?_)
     try simp only [zR]
     refine tr [8] ?_
     refine tc (h := fun K hK => ?_) (hs := tn)
     try go_simp
     try go_wp2_with fail
     refine hK.out _ _ ?_ (fun hHeld => ?_)
     · (try dsimp only); go_keep
     clear hK K
     try simp only [zR]
     refine wpAnyH_done (by kernel_rfl) ?_ _
     go_wp2_with fail
     go_meet
     exact ⟨_, _, z2, za, rfl, Lib.hid (KinAt.put (Y7.out.below B5.out) ((B2.out.trans (B4.out.mono B2.out.size)).size) (((B2.out.trans (B4.out.mono B2.out.size)).trans (B7.out.mono (B2.out.trans (B4.out.mono B2.out.size)).size)).trans (B5.out.mono ((B2.out.trans (B4.out.mono B2.out.size)).trans (B7.out.mono (B2.out.trans (B4.out.mono B2.out.size)).size)).size)) ⟨((B7.out.trans (B5.out.mono B7.out.size)).block _ G4.out.2).trans G4.out.1, (HZ1.out.below (((B2.out.trans (B4.out.mono B2.out.size)).trans (B7.out.mono (B2.out.trans (B4.out.mono B2.out.size)).size)).trans (B5.out.mono ((B2.out.trans (B4.out.mono B2.out.size)).trans (B7.out.mono (B2.out.trans (B4.out.mono B2.out.size)).size)).size))), (Z2.out.below ((B4.out.trans (B7.out.mono B4.out.size)).trans (B5.out.mono (B4.out.trans (B7.out.mono B4.out.size)).size))), (Z5.out.below (Below.refl _ _))⟩)⟩
   ·
    skip
    try go_simp
    go_at_call 23
    refine (rInt_c (0) _ (by omega)).mono ?_
    rintro e w5 ⟨za, rfl, hz, hb⟩
    have Z5 := Lib.hid (hz.lower (Nat.zero_le _))
    have B5 := Lib.hid hb
    clear hz hb
    clear x0 x1 x2
    obtain ⟨x0, x1, x2, _, _, _⟩ := HAL.out _ (B2.out.trans (B5.out.mono B2.out.size))
    try go_wp2_with fail
    refine hK.out _ _ ?_ (fun hHeld => ?_)
    · (try dsimp only); go_keep
    clear hK K
    try simp only [zR]
    refine tr [4, 7] ?_
    refine tc (h := fun K hK => ?_) (hs := tc (h := fun K hK => ?_) (hs := tn))
    ·
     skip
     try go_simp
     try go_wp2_with fail
     refine hK.out _ _ ?_ (fun hHeld => ?_)
     · (try dsimp only); go_keep
     clear hK K
     try simp only [zR]
     have B4 : Hid (Below w5.heap.size w5 (w5.alloc (.cells #[.int .i64 0, .bool z1.s, .slice z1.A z1.n z1.c, .slice z1.B z1.m z1.d, .int .i64 1, .bool z2.s, .slice z2.A z2.n z2.c, .slice z2.B z2.m z2.d] 40))) := ((Below.refl _ _).alloc (Nat.le_refl _) _)
     have G4 : Hid ((w5.alloc (.cells #[.int .i64 0, .bool z1.s, .slice z1.A z1.n z1.c, .slice z1.B z1.m z1.d, .int .i64 1, .bool z2.s, .slice z2.A z2.n z2.c, .slice z2.B z2.m z2.d] 40)).heap[w5.heap.size]? = some (.cells #[.int .i64 0, .bool z1.s, .slice z1.A z1.n z1.c, .slice z1.B z1.m z1.d, .int .i64 1, .bool z2.s, .slice z2.A z2.n z2.c, .slice z2.B z2.m z2.d] 40 (0, 0)) ∧ w5.heap.size < (w5.alloc (.cells #[.int .i64 0, .bool z1.s, .slice z1.A z1.n z1.c, .slice z1.B z1.m z1.d, .int .i64 1, .bool z2.s, .slice z2.A z2.n z2.c, .slice z2.B z2.m z2.d] 40)).heap.size) := ⟨heap_alloc_new w5 _, by simp⟩
     generalize (w5.alloc (.cells #[.int .i64 0, .bool z1.s, .slice z1.A z1.n z1.c, .slice z1.B z1.m z1.d, .int .i64 1, .bool z2.s, .slice z2.A z2.n z2.c, .slice z2.B z2.m z2.d] 40)) = w4 at *
     clear x0 x1 x2
     obtain ⟨x0, x1, x2, _, _, _⟩ := HAL.out _ ((B2.out.trans (B5.out.mono B2.out.size)).trans (B4.out.mono (B2.out.trans (B5.out.mono B2.out.size)).size))
     refine tk (i := 6) (h := ?_)
     try simp only [zR]
     refine tr [7] ?_
     refine tc (h := fun K hK => ?_) (hs := tn)
     try go_simp
     try go_wp2_with fail
     refine hK.out _ _ ?_ (fun hHeld => ?_)
     · (try dsimp only); go_keep
     clear hK K
     try simp only [zR]
     have B7 : Hid (Below w4.heap.size w4 (w4.alloc (.cells #[.int .i64 0, .slice none 0 0, .bool false, .slice none 0 0, .slice none 0 0] 43))) := ((Below.refl _ _).alloc (Nat.le_refl _) _)
     have Y7 : Hid (C5 (w4.alloc (.cells #[.int .i64 0, .slice none 0 0, .bool false, .slice none 0 0, .slice none 0 0] 43)) w4.heap.size (.int .i64 0) (.slice none 0 0) (.bool false) (.slice none 0 0) (.slice none 0 0)) := C5.new w4 (.int .i64 0) (.slice none 0 0) (.bool false) (.slice none 0 0) (.slice none 0 0)
     generalize (w4.alloc (.cells #[.int .i64 0, .slice none 0 0, .bool false, .slice none 0 0, .slice none 0 0] 43)) = w7 at *
     clear x0 x1 x2
     obtain ⟨x0, x1, x2, _, _, _⟩ := HAL.out _ (((B2.out.trans (B5.out.mono B2.out.size)).trans (B4.out.mono (B2.out.trans (B5.out.mono B2.out.size)).size)).trans (B7.out.mono ((B2.out.trans (B5.out.mono B2.out.size)).trans (B4.out.mono (B2.out.trans (B5.out.mono B2.out.size)).size)).size))
     have kY := Y7.out.below (Below.refl _ _)
     obtain ⟨y0, y1, y2, y3, y4⟩ := kY.facts
     obtain ⟨t0, t1, t2, t3, t4⟩ := kY.thaw
     clear kY
     have mA : ¬ X1 = w4.heap.size := by have := HXL.out; have := ((B2.out.trans (B5.out.mono B2.out.size)).trans (B4.out.mono (B2.out.trans (B5.out.mono B2.out.size)).size)).size; omega
     have mB : ¬ w4.heap.size = X1 := fun e => mA e.symm
     refine tr [8] ?_
     refine tc (h := fun K hK => ?_) (hs := tn)
     try go_simp
     try go_wp2_with fail
     refine hK.out _ _ ?_ (fun hHeld => ?_)
     · (try dsimp only); go_keep
     clear hK K
     try simp only [zR]
     refine wpAnyH_done (by kernel_rfl) ?_ _
     go_wp2_with fail
     go_meet
     exact ⟨_, _, z2, za, rfl, Lib.hid (KinAt.put (Y7.out.below (Below.refl _ _)) (((B2.out.trans (B5.out.mono B2.out.size)).trans (B4.out.mono (B2.out.trans (B5.out.mono B2.out.size)).size)).size) (((B2.out.trans (B5.out.mono B2.out.size)).trans (B4.out.mono (B2.out.trans (B5.out.mono B2.out.size)).size)).trans (B7.out.mono ((B2.out.trans (B5.out.mono B2.out.size)).trans (B4.out.mono (B2.out.trans (B5.out.mono B2.out.size)).size)).size)) ⟨(B7.out.block _ G4.out.2).trans G4.out.1, (HZ1.out.below (((B2.out.trans (B5.out.mono B2.out.size)).trans (B4.out.mono (B2.out.trans (B5.out.mono B2.out.size)).size)).trans (B7.out.mono ((B2.out.trans (B5.out.mono B2.out.size)).trans (B4.out.mono (B2.out.trans (B5.out.mono B2.out.size)).size)).size))), (Z2.out.below ((B5.out.trans (B4.out.mono B5.out.size)).trans (B7.out.mono (B5.out.trans (B4.out.mono B5.out.size)).size))), (Z5.out.below (B4.out.trans (B7.out.mono B4.out.size)))⟩)⟩
    ·
     skip
     try go_simp
     try go_wp2_with fail
     refine hK.out _ _ ?_ (fun hHeld => ?_)
     · (try dsimp only); go_keep
     clear hK K
     try simp only [zR]
     have B7 : Hid (Below w5.heap.size w5 (w5.alloc (.cells #[.int .i64 0, .slice none 0 0, .bool false, .slice none 0 0, .slice none 0 0] 43))) := ((Below.refl _ _).alloc (Nat.le_refl _) _)
     have Y7 : Hid (C5 (w5.alloc (.cells #[.int .i64 0, .slice none 0 0, .bool false, .slice none 0 0, .slice none 0 0] 43)) w5.heap.size (.int .i64 0) (.slice none 0 0) (.bool false) (.slice none 0 0) (.slice none 0 0)) := C5.new w5 (.int .i64 0) (.slice none 0 0) (.bool false) (.slice none 0 0) (.slice none 0 0)
     generalize (w5.alloc (.cells #[.int .i64 0, .slice none 0 0, .bool false, .slice none 0 0, .slice none 0 0] 43)) = w7 at *
     clear x0 x1 x2
     obtain ⟨x0, x1, x2, _, _, _⟩ := HAL.out _ ((B2.out.trans (B5.out.mono B2.out.size)).trans (B7.out.mono (B2.out.trans (B5.out.mono B2.out.size)).size))
     refine tr [4] ?_
     refine tc (h := fun K hK => ?_) (hs := tn)
     try go_simp
     try go_wp2_with fail
     refine hK.out _ _ ?_ (fun hHeld => ?_)
     · (try dsimp only); go_keep
     clear hK K
     try simp only [zR]
     have B4 : Hid (Below w7.heap.size w7 (w7.alloc (.cells #[.int .i64 0, .bool z1.s, .slice z1.A z1.n z1.c, .slice z1.B z1.m z1.d, .int .i64 1, .bool z2.s, .slice z2.A z2.n z2.c, .slice z2.B z2.m z2.d] 40))) := ((Below.refl _ _).alloc (Nat.le_refl _) _)
     have G4 : Hid ((w7.alloc (.cells #[.int .i64 0, .bool z1.s, .slice z1.A z1.n z1.c, .slice z1.B z1.m z1.d, .int .i64 1, .bool z2.s, .slice z2.A z2.n z2.c, .slice z2.B z2.m z2.d] 40)).heap[w7.heap.size]? = some (.cells #[.int .i64 0, .bool z1.s, .slice z1.A z1.n z1.c, .slice z1.B z1.m z1.d, .int .i64 1, .bool z2.s, .slice z2.A z2.n z2.c, .slice z2.B z2.m z2.d] 40 (0, 0)) ∧ w7.heap.size < (w7.alloc (.cells #[.int .i64 0, .bool z1.s, .slice z1.A z1.n z1.c, .slice z1.B z1.m z1.d, .int .i64 1, .bool z2.s, .slice z2.A z2.n z2.c, .slice z2.B z2.m z2.d] 40)).heap.size) := ⟨heap_alloc_new w7 _, by simp⟩
     generalize (w7.alloc (.cells #[.int .i64 0, .bool z1.s, .slice z1.A z1.n z1.c, .slice z1.B z1.m z1.d, .int .i64 1, .bool z2.s, .slice z2.A z2.n z2.c, .slice z2.B z2.m z2.d] 40)) = w4 at *
     clear x0 x1 x2
     obtain ⟨x0, x1, x2, _, _, _⟩ := HAL.out _ (((B2.out.trans (B5.out.mono B2.out.size)).trans (B7.out.mono (B2.out.trans (B5.out.mono B2.out.size)).size)).trans (B4.out.mono ((B2.out.trans (B5.out.mono B2.out.size)).trans (B7.out.mono (B2.out.trans (B5.out.mono B2.out.size)).size)).size))
     have kY := Y7.out.below B4.out
     obtain ⟨y0, y1, y2, y3, y4⟩ := kY.facts
     obtain ⟨t0, t1, t2, t3, t4⟩ := kY.thaw
     clear kY
     have mA : ¬ X1 = w5.heap.size := by have := HXL.out; have := (B2.out.trans (B5.out.mono B2.out.size)).size; omega
     have mB : ¬ w5.heap.size = X1 := fun e => mA e.symm
     refine tk (i := 6) (h := ?_)
     try simp only [zR]
     refine tr [8] ?_
     refine tc (h := fun K hK => ?_) (hs := tn)
     try go_simp
     try go_wp2_with fail
     refine hK.out _ _ ?_ (fun hHeld => ?_)
     · (try dsimp only); go_keep
     clear hK K
     try simp only [zR]
     refine wpAnyH_done (by kernel_rfl) ?_ _
     go_wp2_with fail
     go_meet
     exact ⟨_, _, z2, za, rfl, Lib.hid (KinAt.put (Y7.out.below B4.out) ((B2.out.trans (B5.out.mono B2.out.size)).size) (((B2.out.trans (B5.out.mono B2.out.size)).trans (B7.out.mono (B2.out.trans (B5.out.mono B2.out.size)).size)).trans (B4.out.mono ((B2.out.trans (B5.out.mono B2.out.size)).trans (B7.out.mono (B2.out.trans (B5.out.mono B2.out.size)).size)).size)) ⟨((Below.refl _ _).block _ G4.out.2).trans G4.out.1, (HZ1.out.below (((B2.out.trans (B5.out.mono B2.out.size)).trans (B7.out.mono (B2.out.trans (B5.out.mono B2.out.size)).size)).trans (B4.out.mono ((B2.out.trans (B5.out.mono B2.out.size)).trans (B7.out.mono (B2.out.trans (B5.out.mono B2.out.size)).size)).size))), (Z2.out.below ((B5.out.trans (B7.out.mono B5.out.size)).trans (B4.out.mono (B5.out.trans (B7.out.mono B5.out.size)).size))), (Z5.out.below (B7.out.trans (B4.out.mono B7.out.size)))⟩)⟩
   ·
    skip
    try go_simp
    try go_wp2_with fail
    refine hK.out _ _ ?_ (fun hHeld => ?_)
    · (try dsimp only); go_keep
    clear hK K
    try simp only [zR]
    have B7 : Hid (Below w2.heap.size w2 (w2.alloc (.cells #[.int .i64 0, .slice none 0 0, .bool false, .slice none 0 0, .slice none 0 0] 43))) := ((Below.refl _ _).alloc (Nat.le_refl _) _)
    have Y7 : Hid (C5 (w2.alloc (.cells #[.int .i64 0, .slice none 0 0, .bool false, .slice none 0 0, .slice none 0 0] 43)) w2.heap.size (.int .i64 0) (.slice none 0 0) (.bool false) (.slice none 0 0) (.slice none 0 0)) := C5.new w2 (.int .i64 0) (.slice none 0 0) (.bool false) (.slice none 0 0) (.slice none 0 0)
    generalize (w2.alloc (.cells #[.int .i64 0, .slice none 0 0, .bool false, .slice none 0 0, .slice none 0 0] 43)) = w7 at *
    clear x0 x1 x2
    obtain ⟨x0, x1, x2, _, _, _⟩ := HAL.out _ (B2.out.trans (B7.out.mono B2.out.size))
    refine tr [4, 5] ?_
    refine tc (h := fun K hK => ?_) (hs := tc (h := fun K hK => ?_) (hs := tn))
    ·
     skip
     try go_simp
     try go_wp2_with fail
     refine hK.out _ _ ?_ (fun hHeld => ?_)
     · (try dsimp only); go_keep
     clear hK K
     try simp only [zR]
     have B4 : Hid (Below w7.heap.size w7 (w7.alloc (.cells #[.int .i64 0, .bool z1.s, .slice z1.A z1.n z1.c, .slice z1.B z1.m z1.d, .int .i64 1, .bool z2.s, .slice z2.A z2.n z2.c, .slice z2.B z2.m z2.d] 40))) := ((Below.refl _ _).alloc (Nat.le_refl _) _)
     have G4 : Hid ((w7.alloc (.cells #[.int .i64 0, .bool z1.s, .slice z1.A z1.n z1.c, .slice z1.B z1.m z1.d, .int .i64 1, .bool z2.s, .slice z2.A z2.n z2.c, .slice z2.B z2.m z2.d] 40)).heap[w7.heap.size]? = some (.cells #[.int .i64 0, .bool z1.s, .slice z1.A z1.n z1.c, .slice z1.B z1.m z1.d, .int .i64 1, .bool z2.s, .slice z2.A z2.n z2.c, .slice z2.B z2.m z2.d] 40 (0, 0)) ∧ w7.heap.size < (w7.alloc (.cells #[.int .i64 0, .bool z1.s, .slice z1.A z1.n z1.c, .slice z1.B z1.m z1.d, .int .i64 1, .bool z2.s, .slice z2.A z2.n z2.c, .slice z2.B z2.m z2.d] 40)).heap.size) := ⟨heap_alloc_new w7 _, by simp⟩
     generalize (w7.alloc (.cells #[.int .i64 0, .bool z1.s, .slice z1.A z1.n z1.c, .slice z1.B z1.m z1.d, .int .i64 1, .bool z2.s, .slice z2.A z2.n z2.c, .slice z2.B z2.m z2.d] 40)) = w4 at *
     clear x0 x1 x2
     obtain ⟨x0, x1, x2, _, _, _⟩ := HAL.out _ ((B2.out.trans (B7.out.mono B2.out.size)).trans (B4.out.mono (B2.out.trans (B7.out.mono B2.out.size)).size))
     refine tr [5] ?_
     refine tc (h := fun K hK => ?_) (hs := tn)
     try go_simp
     go_at_call 23
     refine (rInt_c (0) _ (by omega)).mono ?_
     rintro e w5 ⟨za, rfl, hz, hb⟩
     have Z5 := Lib.hid (hz.lower (Nat.zero_le _))
     have B5 := Lib.hid hb
     clear hz hb
     clear x0 x1 x2
     obtain ⟨x0, x1, x2, _, _, _⟩ := HAL.out _ (((B2.out.trans (B7.out.mono B2.out.size)).trans (B4.out.mono (B2.out.trans (B7.out.mono B2.out.size)).size)).trans (B5.out.mono ((B2.out.trans (B7.out.mono B2.out.size)).trans (B4.out.mono (B2.out.trans (B7.out.mono B2.out.size)).size)).size))
     have kY := Y7.out.below (B4.out.trans (B5.out.mono B4.out.size))
     obtain ⟨y0, y1, y2, y3, y4⟩ := kY.facts
     obtain ⟨t0, t1, t2, t3, t4⟩ := kY.thaw
     clear kY
     have mA : ¬ X1 = w2.heap.size := by have := HXL.out; have := B2.out.size; omega
     have mB : ¬ w2.heap.size = X1 := fun e => mA e.symm
     try go_wp2_with fail
     refine hK.out _ _ ?_ (fun hHeld => ?_)
     · (try dsimp only); go_keep
     clear hK K
     try simp only [zR]
     refine tk (i := 6) (h := ?_)
     try simp only [zR]
     refine tr [8] ?_
     refine tc (h := fun K hK => ?_) (hs := tn)
     try go_simp
     try go_wp2_with fail
     refine hK.out _ _ ?_ (fun hHeld => ?_)
     · (try dsimp only); go_keep
     clear hK K
     try simp only [zR]
     refine wpAnyH_done (by kernel_rfl) ?_ _
     go_wp2_with fail
     go_meet
     exact ⟨_, _, z2, za, rfl, Lib.hid (KinAt.put (Y7.out.below (B4.out.trans (B5.out.mono B4.out.size))) (B2.out.size) (((B2.out.trans (B7.out.mono B2.out.size)).trans (B4.out.mono (B2.out.trans (B7.out.mono B2.out.size)).size)).trans (B5.out.mono ((B2.out.trans (B7.out.mono B2.out.size)).trans (B4.out.mono (B2.out.trans (B7.out.mono B2.out.size)).size)).size)) ⟨(B5.out.block _ G4.out.2).trans G4.out.1, (HZ1.out.below (((B2.out.trans (B7.out.mono B2.out.size)).trans (B4.out.mono (B2.out.trans (B7.out.mono B2.out.size)).size)).trans (B5.out.mono ((B2.out.trans (B7.out.mono B2.out.size)).trans (B4.out.mono (B2.out.trans (B7.out.mono B2.out.size)).size)).size))), (Z2.out.below ((B7.out.trans (B4.out.mono B7.out.size)).trans (B5.out.mono (B7.out.trans (B4.out.mono B7.out.size)).size))), (Z5.out.below (Below.refl _ _))⟩)⟩
    ·
     skip
     try go_simp
     go_at_call 23
     refine (rInt_c (0) _ (by omega)).mono ?_
     rintro e w5 ⟨za, rfl, hz, hb⟩
     have Z5 := Lib.hid (hz.lower (Nat.zero_le _))
     have B5 := Lib.hid hb
     clear hz hb
     clear x0 x1 x2
     obtain ⟨x0, x1, x2, _, _, _⟩ := HAL.out _ ((B2.out.trans (B7.out.mono B2.out.size)).trans (B5.out.mono (B2.out.trans (B7.out.mono B2.out.size)).size))
     try go_wp2_with fail
     refine hK.out _ _ ?_ (fun hHeld => ?_)
     · (try dsimp only); go_keep
     clear hK K
     try simp only [zR]
     refine tr [4] ?_
     refine tc (h := fun K hK => ?_) (hs := tn)
     try go_simp
     try go_wp2_with fail
     refine hK.out _ _ ?_ (fun hHeld => ?_)
     · (try dsimp only); go_keep
     clear hK K
     try simp only [zR]
     have B4 : Hid (Below w5.heap.size w5 (w5.alloc (.cells #[.int .i64 0, .bool z1.s, .slice z1.A z1.n z1.c, .slice z1.B z1.m z1.d, .int .i64 1, .bool z2.s, .slice z2.A z2.n z2.c, .slice z2.B z2.m z2.d] 40))) := ((Below.refl _ _).alloc (Nat.le_refl _) _)
     have G4 : Hid ((w5.alloc (.cells #[.int .i64 0, .bool z1.s, .slice z1.A z1.n z1.c, .slice z1.B z1.m z1.d, .int .i64 1, .bool z2.s, .slice z2.A z2.n z2.c, .slice z2.B z2.m z2.d] 40)).heap[w5.heap.size]? = some (.cells #[.int .i64 0, .bool z1.s, .slice z1.A z1.n z1.c, .slice z1.B z1.m z1.d, .int .i64 1, .bool z2.s, .slice z2.A z2.n z2.c, .slice z2.B z2.m z2.d] 40 (0, 0)) ∧ w5.heap.size < (w5.alloc (.cells #[.int .i64 0, .bool z1.s, .slice z1.A z1.n z1.c, .slice z1.B z1.m z1.d, .int .i64 1, .bool z2.s, .slice z2.A z2.n z2.c, .slice z2.B z2.m z2.d] 40)).heap.size) := ⟨heap_alloc_new w5 _, by simp⟩
     generalize (w5.alloc (.cells #[.int .i64 0, .bool z1.s, .slice z1.A z1.n z1.c, .slice z1.B z1.m z1.d, .int .i64 1, .bool z2.s, .slice z2.A z2.n z2.c, .slice z2.B z2.m z2.d] 40)) = w4 at *
     clear x0 x1 x2
     obtain ⟨x0, x1, x2, _, _, _⟩ := HAL.out _ (((B2.out.trans (B7.out.mono B2.out.size)).trans (B5.out.mono (B2.out.trans (B7.out.mono B2.out.size)).size)).trans (B4.out.mono ((B2.out.trans (B7.out.mono B2.out.size)).trans (B5.out.mono (B2.out.trans (B7.out.mono B2.out.size)).size)).size))
     have kY := Y7.out.below (B5.out.trans (B4.out.mono B5.out.size))
     obtain ⟨y0, y1, y2, y3, y4⟩ := kY.facts
     obtain ⟨t0, t1, t2, t3, t4⟩ := kY.thaw
     clear kY
     have mA : ¬ X1 = w2.heap.size := by have := HXL.out; have := B2.out.size; omega
     have mB : ¬ w2.heap.size = X1 := fun e => mA e.symm
     refine tk (i := 6) (h := ?_)
     try simp only [zR]
     refine tr [8] ?_
     refine tc (h := fun K hK => ?_) (hs := tn)
     try go_simp
     try go_wp2_with fail
     refine hK.out _ _ ?_ (fun hHeld => ?_)
     · (try dsimp only); go_keep
     clear hK K
     try simp only [zR]
     refine wpAnyH_done (by kernel_rfl) ?_ _
     go_wp2_with fail
     go_meet
     exact ⟨_, _, z2, za, rfl, Lib.hid (KinAt.put (Y7.out.below (B5.out.trans (B4.out.mono B5.out.size))) (B2.out.size) (((B2.out.trans (B7.out.mono B2.out.size)).trans (B5.out.mono (B2.out.trans (B7.out.mono B2.out.size)).size)).trans (B4.out.mono ((B2.out.trans (B7.out.mono B2.out.size)).trans (B5.out.mono (B2.out.trans (B7.out.mono B2.out.size)).size)).size)) ⟨((Below.refl _ _).block _ G4.out.2).trans G4.out.1, (HZ1.out.below (((B2.out.trans (B7.out.mono B2.out.size)).trans (B5.out.mono (B2.out.trans (B7.out.mono B2.out.size)).size)).trans (B4.out.mono ((B2.out.trans (B7.out.mono B2.out.size)).trans (B5.out.mono (B2.out.trans (B7.out.mono B2.out.size)).size)).size))), (Z2.out.below ((B7.out.trans (B5.out.mono B7.out.size)).trans (B4.out.mono (B7.out.trans (B5.out.mono B7.out.size)).size))), (Z5.out.below B4.out)⟩)⟩
  ·
   skip
   try go_simp
   try go_wp2_with fail
   refine hK.out _ _ ?_ (fun hHeld => ?_)
   · (try dsimp only); go_keep
   clear hK K
   try simp only [zR]
   have B7 : Hid (Below W.heap.size W (W.alloc (.cells #[.int .i64 0, .slice none 0 0, .bool false, .slice none 0 0, .slice none 0 0] 43)).drew) := ((Below.refl _ _).alloc (Nat.le_refl _) _).drew
   have Y7 : Hid (C5 (W.alloc (.cells #[.int .i64 0, .slice none 0 0, .bool false, .slice none 0 0, .slice none 0 0] 43)).drew W.heap.size (.int .i64 0) (.slice none 0 0) (.bool false) (.slice none 0 0) (.slice none 0 0)) := C5.new W (.int .i64 0) (.slice none 0 0) (.bool false) (.slice none 0 0) (.slice none 0 0)
   generalize (W.alloc (.cells #[.int .i64 0, .slice none 0 0, .bool false, .slice none 0 0, .slice none 0 0] 43)).drew = w7 at *
   clear x0 x1 x2
   obtain ⟨x0, x1, x2, _, _, _⟩ := HAL.out _ B7.out
   refine tr [2] ?_
   refine tc (h := fun K hK => ?_) (hs := tn)
   try go_simp
   go_at_call 23
   refine (rInt_c (-1) _ (by omega)).mono ?_
   rintro e w2 ⟨z2, rfl, hz, hb⟩
   have Z2 := Lib.hid (hz.lower (Nat.zero_le _))
   have B2 := Lib.hid hb
   clear hz hb
   clear x0 x1 x2
   obtain ⟨x0, x1, x2, _, _, _⟩ := HAL.out _ (B7.out.trans (B2.out.mono B7.out.size))
   try go_wp2_with fail
   refine hK.out _ _ ?_ (fun hHeld => ?_)
   · (try dsimp only); go_keep
   clear hK K
   try simp only [zR]
   refine tk (i := 3) (h := ?_)
   try simp only [zR]
   refine tr [4, 5] ?_
   refine tc (h := fun K hK => ?_) (hs := tc (h := fun K hK => ?_) (hs := tn))
   ·
    skip
    try go_simp
    try go_wp2_with fail
    refine hK.out _ _ ?_ (fun hHeld => ?_)
    · (try dsimp only); go_keep
    clear hK K
    try simp only [zR]
    have B4 : Hid (Below w2.heap.size w2 (w2.alloc (.cells #[.int .i64 0, .bool z1.s, .slice z1.A z1.n z1.c, .slice z1.B z1.m z1.d, .int .i64 1, .bool z2.s, .slice z2.A z2.n z2.c, .slice z2.B z2.m z2.d] 40))) := ((Below.refl _ _).alloc (Nat.le_refl _) _)
    have G4 : Hid ((w2.alloc (.cells #[.int .i64 0, .bool z1.s, .slice z1.A z1.n z1.c, .slice z1.B z1.m z1.d, .int .i64 1, .bool z2.s, .slice z2.A z2.n z2.c, .slice z2.B z2.m z2.d] 40)).heap[w2.heap.size]? = some (.cells #[.int .i64 0, .bool z1.s, .slice z1.A z1.n z1.c, .slice z1.B z1.m z1.d, .int .i64 1, .bool z2.s, .slice z2.A z2.n z2.c, .slice z2.B z2.m z2.d] 40 (0, 0)) ∧ w2.heap.size < (w2.alloc (.cells #[.int .i64 0, .bool z1.s, .slice z1.A z1.n z1.c, .slice z1.B z1.m z1.d, .int .i64 1, .bool z2.s, .slice z2.A z2.n z2.c, .slice z2.B z2.m z2.d] 40)).heap.size) := ⟨heap_alloc_new w2 _, by simp⟩
    generalize (w2.alloc (.cells #[.int .i64 0, .bool z1.s, .slice z1.A z1.n z1.c, .slice z1.B z1.m z1.d, .int .i64 1, .bool z2.s, .slice z2.A z2.n z2.c, .slice z2.B z2.m z2.d] 40)) = w4 at *
    clear x0 x1 x2
    obtain ⟨x0, x1, x2, _, _, _⟩ := HAL.out _ ((B7.out.trans (B2.out.mono B7.out.size)).trans (B4.out.mono (B7.out.trans (B2.out.mono B7.out.size)).size))
    refine tr [5] ?_
    refine tc (h := fun K hK => ?_) (hs := tn)
    try go_simp
    go_at_call 23
    refine (rInt_c (0) _ (by omega)).mono ?_
    rintro e w5 ⟨za, rfl, hz, hb⟩
    have Z5 := Lib.hid (hz.lower (Nat.zero_le _))
    have B5 := Lib.hid hb
    clear hz hb
    clear x0 x1 x2
    obtain ⟨x0, x1, x2, _, _, _⟩ := HAL.out _ (((B7.out.trans (B2.out.mono B7.out.size)).trans (B4.out.mono (B7.out.trans (B2.out.mono B7.out.size)).size)).trans (B5.out.mono ((B7.out.trans (B2.out.mono B7.out.size)).trans (B4.out.mono (B7.out.trans (B2.out.mono B7.out.size)).size)).size))
    have kY := Y7.out.below ((B2.out.trans (B4.out.mono B2.out.size)).trans (B5.out.mono (B2.out.trans (B4.out.mono B2.out.size)).size))
    obtain ⟨y0, y1, y2, y3, y4⟩ := kY.facts
    obtain ⟨t0, t1, t2, t3, t4⟩ := kY.thaw
    clear kY
    have mA : ¬ X1 = W.heap.size := by have := HXL.out; omega
    have mB : ¬ W.heap.size = X1 := fun e => mA e.symm
    try go_wp2_with fail
    refine hK.out _ _ ?_ (fun hHeld => ?_)
    · (try dsimp only); go_keep
    clear hK K
    try simp only [zR]
    refine tk (i := 6) (h := ?_)
    try simp only [zR]
    refine tr [8] ?_
    refine tc (h := fun K hK => ?_) (hs := tn)
    try go_simp
    try go_wp2_with fail
    refine hK.out _ _ ?_ (fun hHeld => ?_)
    · (try dsimp only); go_keep
    clear hK K
    try simp only [zR]
    refine wpAnyH_done (by kernel_rfl) ?_ _
    go_wp2_with fail
    go_meet
    exact ⟨_, _, z2, za, rfl, Lib.hid (KinAt.put (Y7.out.below ((B2.out.trans (B4.out.mono B2.out.size)).trans (B5.out.mono (B2.out.trans (B4.out.mono B2.out.size)).size))) (Nat.le_refl _) (((B7.out.trans (B2.out.mono B7.out.size)).trans (B4.out.mono (B7.out.trans (B2.out.mono B7.out.size)).size)).trans (B5.out.mono ((B7.out.trans (B2.out.mono B7.out.size)).trans (B4.out.mono (B7.out.trans (B2.out.mono B7.out.size)).size)).size)) ⟨(B5.out.block _ G4.out.2).trans G4.out.1, (HZ1.out.below (((B7.out.trans (B2.out.mono B7.out.size)).trans (B4.out.mono (B7.out.trans (B2.out.mono B7.out.size)).size)).trans (B5.out.mono ((B7.out.trans (B2.out.mono B7.out.size)).trans (B4.out.mono (B7.out.trans (B2.out.mono B7.out.size)).size)).size))), (Z2.out.below (B4.out.trans (B5.out.mono B4.out.size))), (Z5.out.below (Below.refl _ _))⟩)⟩
   ·
    skip
    try go_simp
    go_at_call 23
    refine (rInt_c (0) _ (by omega)).mono ?_
    rintro e w5 ⟨za, rfl, hz, hb⟩
    have Z5 := Lib.hid (hz.lower (Nat.zero_le _))
    have B5 := Lib.hid hb
    clear hz hb
    clear x0 x1 x2
    obtain ⟨x0, x1, x2, _, _, _⟩ := HAL.out _ ((B7.out.trans (B2.out.mono B7.out.size)).trans (B5.out.mono (B7.out.trans (B2.out.mono B7.out.size)).size))
    try go_wp2_with fail
    refine hK.out _ _ ?_ (fun hHeld => ?_)
    · (try dsimp only); go_keep
    clear hK K
    try simp only [zR]
    refine tr [4] ?_
    refine tc (h := fun K hK => ?_) (hs := tn)
    try go_simp
    try go_wp2_with fail
    refine hK.out _ _ ?_ (fun hHeld => ?_)
    · (try dsimp only); go_keep
    clear hK K
    try simp only [zR]
    have B4 : Hid (Below w5.heap.size w5 (w5.alloc (.cells #[.int .i64 0, .bool z1.s, .slice z1.A z1.n z1.c, .slice z1.B z1.m z1.d, .int .i64 1, .bool z2.s, .slice z2.A z2.n z2.c, .slice z2.B z2.m z2.d] 40))) := ((Below.refl _ _).alloc (Nat.le_refl _) _)
    have G4 : Hid ((w5.alloc (.cells #[.int .i64 0, .bool z1.s, .slice z1.A z1.n z1.c, .slice z1.B z1.m z1.d, .int .i64 1, .bool z2.s, .slice z2.A z2.n z2.c, .slice z2.B z2.m z2.d] 40)).heap[w5.heap.size]? = some (.cells #[.int .i64 0, .bool z1.s, .slice z1.A z1.n z1.c, .slice z1.B z1.m z1.d, .int .i64 1, .bool z2.s, .slice z2.A z2.n z2.c, .slice z2.B z2.m z2.d] 40 (0, 0)) ∧ w5.heap.size < (w5.alloc (.cells #[.int .i64 0, .bool z1.s, .slice z1.A z1.n z1.c, .slice z1.B z1.m z1.d, .int .i64 1, .bool z2.s, .slice z2.A z2.n z2.c, .slice z2.B z2.m z2.d] 40)).heap.size) := ⟨heap_alloc_new w5 _, by simp⟩
    generalize (w5.alloc (.cells #[.int .i64 0, .bool z1.s, .slice z1.A z1.n z1.c, .slice z1.B z1.m z1.d, .int .i64 1, .bool z2.s, .slice z2.A z2.n z2.c, .slice z2.B z2.m z2.d] 40)) = w4 at *
    clear x0 x1 x2
    obtain ⟨x0, x1, x2, _, _, _⟩ := HAL.out _ (((B7.out.trans (B2.out.mono B7.out.size)).trans (B5.out.mono (B7.out.trans (B2.out.mono B7.out.size)).size)).trans (B4.out.mono ((B7.out.trans (B2.out.mono B7.out.size)).trans (B5.out.mono (B7.out.trans (B2.out.mono B7.out.size)).size)).size))
    have kY := Y7.out.below ((B2.out.trans (B5.out.mono B2.out.size)).trans (B4.out.mono (B2.out.trans (B5.out.mono B2.out.size)).size))
    obtain ⟨y0, y1, y2, y3, y4⟩ := kY.facts
    obtain ⟨t0, t1, t2, t3, t4⟩ := kY.thaw
    clear kY
    have mA : ¬ X1 = W.heap.size := by have := HXL.out; omega
    have mB : ¬ W.heap.size = X1 := fun e => mA e.symm
    refine tk (i := 6) (h := ?_)
    try simp only [zR]
    refine tr [8] ?_
    refine tc (h := fun K hK => ?_) (hs := tn)
    try go_simp
    try go_wp2_with fail
    refine hK.out _ _ ?_ (fun hHeld => ?_)
    · (try dsimp only); go_keep
    clear hK K
    try simp only [zR]
    refine wpAnyH_done (by kernel_rfl) ?_ _
    go_wp2_with fail
    go_meet
    exact ⟨_, _, z2, za, rfl, Lib.hid (KinAt.put (Y7.out.below ((B2.out.trans (B5.out.mono B2.out.size)).trans (B4.out.mono (B2.out.trans (B5.out.mono B2.out.size)).size))) (Nat.le_refl _) (((B7.out.trans (B2.out.mono B7.out.size)).trans (B5.out.mono (B7.out.trans (B2.out.mono B7.out.size)).size)).trans (B4.out.mono ((B7.out.trans (B2.out.mono B7.out.size)).trans (B5.out.mono (B7.out.trans (B2.out.mono B7.out.size)).size)).size)) ⟨((Below.refl _ _).block _ G4.out.2).trans G4.out.1, (HZ1.out.below (((B7.out.trans (B2.out.mono B7.out.size)).trans (B5.out.mono (B7.out.trans (B2.out.mono B7.out.size)).size)).trans (B4.out.mono ((B7.out.trans (B2.out.mono B7.out.size)).trans (B5.out.mono (B7.out.trans (B2.out.mono B7.out.size)).size)).size))), (Z2.out.below (B5.out.trans (B4.out.mono B5.out.size))), (Z5.out.below B4.out)⟩)⟩
 case rest =>
  obtain ⟨Ya, Ga, z2, za, rfl, HKA⟩ := hcut
  generalize wc = W3 at *
  clear x0 x1 x2 HAL HXL HZ1
  go_upto_region 3 with fail
  have HK3 : Hid (C3 W3 X1 (.bool z1.s) (.slice z1.A z1.n z1.c) (.slice z1.B z1.m z1.d) ∧ Below w.heap.size w W3) := ⟨HK1.out.1.below HKA.out.below, HK1.out.2.1.trans (HKA.out.below.mono HK1.out.2.1.size)⟩
  have HZ1 := Lib.hid (HK1.out.2.2.below HKA.out.below)
  have HAL : Hid (∀ w', Below W3.heap.size W3 w' → (w'.cell? ⟨X1, 0, none⟩ = some (.bool z1.s) ∧ w'.cell? ⟨X1, 1, none⟩ = some (.slice z1.A z1.n z1.c) ∧ w'.cell? ⟨X1, 2, none⟩ = some (.slice z1.B z1.m z1.d) ∧ w'.frozen? ⟨X1, 0, none⟩ = false ∧ w'.frozen? ⟨X1, 1, none⟩ = false ∧ w'.frozen? ⟨X1, 2, none⟩ = false)) := fun w' h => (HK3.out.1.below h).facts
  have HXL : Hid (X1 < W3.heap.size) := HK3.out.1.lt
  obtain ⟨x0, x1, x2, _, _, _⟩ := HAL.out _ (Below.refl _ _)
  go_cut [3] from 14 (fun xv wx => ∃ (Y G : Nat) (zb : Rv), xv = .pointer (some ⟨Y, 0, none⟩) ∧ Hid (OneK W3 wx Y G z1 zb ((1 : Int) : Rat) ((-5 : Int) : Rat)))
  case first =>
   refine wp_region_held_drew (S := fun w' => w'.cell? ⟨X1, 0, none⟩ = some (.bool z1.s) ∧ w'.cell? ⟨X1, 1, none⟩ = some (.slice z1.A z1.n z1.c) ∧ w'.cell? ⟨X1, 2, none⟩ = some (.slice z1.B z1.m z1.d)) (by kernel_rfl) ?_ (fun hHeld => ?_)
   ·
    (try dsimp only)
    go_keep
   refine tk (i := 0) (h := ?_)
   try simp only [zR]
   refine tk (i := 1) (h := ?_)
   try simp only [zR]
   refine tr [2, 3, 5] ?_
   refine tc (h := fun K hK => ?_) (hs := tc (h := fun K hK => ?_) (hs := tc (h := fun K hK => ?_) (hs := tn)))
   ·
    skip
    try go_simp
    try go_wp2_with fail
    refine hK.out _ _ ?_ (fun hHeld => ?_)
    · (try dsimp only); go_keep
    clear hK K
    try simp only [zR]
    have B2 : Hid (Below W3.heap.size W3 (W3.alloc (.cells #[.int .i64 0, .bool z1.s, .slice z1.A z1.n z1.c, .slice z1.B z1.m z1.d] 40)).drew) := ((Below.refl _ _).alloc (Nat.le_refl _) _).drew
    have G2 : Hid ((W3.alloc (.cells #[.int .i64 0, .bool z1.s, .slice z1.A z1.n z1.c, .slice z1.B z1.m z1.d] 40)).drew.heap[W3.heap.size]? = some (.cells #[.int .i64 0, .bool z1.s, .slice z1.A z1.n z1.c, .slice z1.B z1.m z1.d] 40 (0, 0)) ∧ W3.heap.size < (W3.alloc (.cells #[.int .i64 0, .bool z1.s, .slice z1.A z1.n z1.c, .slice z1.B z1.m z1.d] 40)).drew.heap.size) := ⟨heap_alloc_new W3 _, by simp⟩
    generalize (W3.alloc (.cells #[.int .i64 0, .bool z1.s, .slice z1.A z1.n z1.c, .slice z1.B z1.m z1.d] 40)).drew = w2 at *
    clear x0 x1 x2
    obtain ⟨x0, x1, x2, _, _, _⟩ := HAL.out _ B2.out
    refine tr [3, 5] ?_
    refine tc (h := fun K hK => ?_) (hs := tc (h := fun K hK => ?_) (hs := tn))
    ·
     skip
     try go_simp
     go_at_call 23
     refine (rInt_c (-5) _ (by omega)).mono ?_
     rintro e w3 ⟨zb, rfl, hz, hb⟩
     have Z3 := Lib.hid (hz.lower (Nat.zero_le _))
     have B3 := Lib.hid hb
     clear hz hb
     clear x0 x1 x2
     obtain ⟨x0, x1, x2, _, _, _⟩ := HAL.out _ (B2.out.trans (B3.out.mono B2.out.size))
     try go_wp2_with fail
     refine hK.out _ _ ?_ (fun hHeld => ?_)
     · (try dsimp only); go_keep
     clear hK K
     try simp only [zR]
     refine tk (i := 4) (h := ?_)
     try simp only [zR]
     refine tr [5] ?_
     refine tc (h := fun K hK => ?_) (hs := tn)
     try go_simp
     try go_wp2_with fail
     refine hK.out _ _ ?_ (fun hHeld => ?_)
     · (try dsimp only); go_keep
     clear hK K
     try simp only [zR]
     have B5 : Hid (Below w3.heap.size w3 (w3.alloc (.cells #[.int .i64 0, .slice none 0 0, .bool false, .slice none 0 0, .slice none 0 0] 43))) := ((Below.refl _ _).alloc (Nat.le_refl _) _)
     have Y5 : Hid (C5 (w3.alloc (.cells #[.int .i64 0, .slice none 0 0, .bool false, .slice none 0 0, .slice none 0 0] 43)) w3.heap.size (.int .i64 0) (.slice none 0 0) (.bool false) (.slice none 0 0) (.slice none 0 0)) := C5.new w3 (.int .i64 0) (.slice none 0 0) (.bool false) (.slice none 0 0) (.slice none 0 0)
     generalize (w3.alloc (.cells #[.int .i64 0, .slice none 0 0, .bool false, .slice none 0 0, .slice none 0 0] 43)) = w5 at *
     clear x0 x1 x2
     obtain ⟨x0, x1, x2, _, _, _⟩ := HAL.out _ ((B2.out.trans (B3.out.mono B2.out.size)).trans (B5.out.mono (B2.out.trans (B3.out.mono B2.out.size)).size))
     have kY := Y5.out.below (Below.refl _ _)
     obtain ⟨y0, y1, y2, y3, y4⟩ := kY.facts
     obtain ⟨t0, t1, t2, t3, t4⟩ := kY.thaw
     clear kY
     have mA : ¬ X1 = w3.heap.size := by have := HXL.out; have := (B2.out.trans (B3.out.mono B2.out.size)).size; omega
     have mB : ¬ w3.heap.size = X1 := fun e => mA e.symm
     refine tr [6] ?_
     refine tc (h := fun K hK => ?_) (hs := tn)
     try go_simp
     try go_wp2_with fail
     refine hK.out _ _ ?_ (fun hHeld => ?_)
     · (try dsimp only); go_keep
     clear hK K
     try simp only [zR]
     refine wpAnyH_done (by kernel_rfl) ?_ _
     go_wp2_with fail
     go_meet
     exact ⟨_, _, zb, rfl, Lib.hid (OneK.put (Y5.out.below (Below.refl _ _)) ((B2.out.trans (B3.out.mono B2.out.size)).size) ((B2.out.trans (B3.out.mono B2.out.size)).trans (B5.out.mono (B2.out.trans (B3.out.mono B2.out.size)).size)) ⟨((B3.out.trans (B5.out.mono B3.out.size)).block _ G2.out.2).trans G2.out.1, (HZ1.out.below ((B2.out.trans (B3.out.mono B2.out.size)).trans (B5.out.mono (B2.out.trans (B3.out.mono B2.out.size)).size))), (Z3.out.below B5.out)⟩)⟩
    ·
     skip
     try go_simp
     try go_wp2_with fail
     refine hK.out _ _ ?_ (fun hHeld => ?_)
     · (try dsimp only); go_keep
     clear hK K
     try simp only [zR]
     have B5 : Hid (Below w2.heap.size w2 (w2.alloc (.cells #[.int .i64 0, .slice none 0 0, .bool false, .slice none 0 0, .slice none 0 0] 43))) := ((Below.refl _ _).alloc (Nat.le_refl _) _)
     have Y5 : Hid (C5 (w2.alloc (.cells #[.int .i64 0, .slice none 0 0, .bool false, .slice none 0 0, .slice none 0 0] 43)) w2.heap.size (.int .i64 0) (.slice none 0 0) (.bool false) (.slice none 0 0) (.slice none 0 0)) := C5.new w2 (.int .i64 0) (.slice none 0 0) (.bool false) (.slice none 0 0) (.slice none 0 0)
     generalize (w2.alloc (.cells #[.int .i64 0, .slice none 0 0, .bool false, .slice none 0 0, .slice none 0 0] 43)) = w5 at *
     clear x0 x1 x2
     obtain ⟨x0, x1, x2, _, _, _⟩ := HAL.out _ (B2.out.trans (B5.out.mono B2.out.size))
     refine tr [3] ?_
     refine tc (h := fun K hK => ?_) (hs := tn)
     try go_simp
     go_at_call 23
     refine (rInt_c (-5) _ (by omega)).mono ?_
     rintro e w3 ⟨zb, rfl, hz, hb⟩
     have Z3 := Lib.hid (hz.lower (Nat.zero_le _))
     have B3 := Lib.hid hb
     clear hz hb
     clear x0 x1 x2
     obtain ⟨x0, x1, x2, _, _, _⟩ := HAL.out _ ((B2.out.trans (B5.out.mono B2.out.size)).trans (B3.out.mono (B2.out.trans (B5.out.mono B2.out.size)).size))
     have kY := Y5.out.below B3.out
     obtain ⟨y0, y1, y2, y3, y4⟩ := kY.facts
     obtain ⟨t0, t1, t2, t3, t4⟩ := kY.thaw
     clear kY
     have mA : ¬ X1 = w2.heap.size := by have := HXL.out; have := B2.out.size; omega
     have mB : ¬ w2.heap.size = X1 := fun e => mA e.symm
     try go_wp2_with fail
     refine hK.out _ _ ?_ (fun hHeld => ?_)
     · (try dsimp only); go_keep
     clear hK K
     try simp only [zR]
     refine tk (i := 4) (h := ?_)
     try simp only [zR]
     refine tr [6] ?_
     refine tc (h := fun K hK => ?_) (hs := tn)
     try go_simp
     try go_wp2_with fail
     refine hK.out _ _ ?_ (fun hHeld => ?_)
     · (try dsimp only); go_keep
     clear hK K
     try simp only [zR]
     refine wpAnyH_done (by kernel_rfl) ?_ _
     go_wp2_with fail
     go_meet
     exact ⟨_, _, zb, rfl, Lib.hid (OneK.put (Y5.out.below B3.out) (B2.out.size) ((B2.out.trans (B5.out.mono B2.out.size)).trans (B3.out.mono (B2.out.trans (B5.out.mono B2.out.size)).size)) ⟨((B5.out.trans (B3.out.mono B5.out.size)).block _ G2.out.2).trans G2.out.1, (HZ1.out.below ((B2.out.trans (B5.out.mono B2.out.size)).trans (B3.out.mono (B2.out.trans (B5.out.mono B2.out.size)).size))), (Z3.out.below (Below.refl _ _))⟩)⟩
   ·
    skip
    try go_simp
    go_at_call 23
    refine (rInt_c (-5) _ (by omega)).mono ?_
    rintro e w3 ⟨zb, rfl, hz, hb⟩
    have Z3 := Lib.hid (hz.lower (Nat.zero_le _))
    have B3 := Lib.hid ((bel1 W3).trans hb)
    clear hz hb
    clear x0 x1 x2
    obtain ⟨x0, x1, x2, _, _, _⟩ := HAL.out _ B3.out
    try go_wp2_with fail
    refine hK.out _ _ ?_ (fun hHeld => ?_)
    · (try dsimp only); go_keep
    clear hK K
    try simp only [zR]
    refine tr [2, 5] ?_
    refine tc (h := fun K hK => ?_) (hs := tc (h := fun K hK => ?_) (hs := tn))
    ·
     skip
     try go_simp
     try go_wp2_with fail
     refine hK.out _ _ ?_ (fun hHeld => ?_)
     · (try dsimp only); go_keep
     clear hK K
     try simp only [zR]
     have B2 : Hid (Below w3.heap.size w3 (w3.alloc (.cells #[.int .i64 0, .bool z1.s, .slice z1.A z1.n z1.c, .slice z1.B z1.m z1.d] 40))) := ((Below.refl _ _).alloc (Nat.le_refl _) _)
     have G2 : Hid ((w3.alloc (.cells #[.int .i64 0, .bool z1.s, .slice z1.A z1.n z1.c, .slice z1.B z1.m z1.d] 40)).heap[w3.heap.size]? = some (.cells #[.int .i64 0, .bool z1.s, .slice z1.A z1.n z1.c, .slice z1.B z1.m z1.d] 40 (0, 0)) ∧ w3.heap.size < (w3.alloc (.cells #[.int .i64 0, .bool z1.s, .slice z1.A z1.n z1.c, .slice z1.B z1.m z1.d] 40)).heap.size) := ⟨heap_alloc_new w3 _, by simp⟩
     generalize (w3.alloc (.cells #[.int .i64 0, .bool z1.s, .slice z1.A z1.n z1.c, .slice z1.B z1.m z1.d] 40)) = w2 at *
     clear x0 x1 x2
     obtain ⟨x0, x1, x2, _, _, _⟩ := HAL.out _ (B3.out.trans (B2.out.mono B3.out.size))
     refine tk (i := 4) (h := ?_)
     try simp only [zR]
     refine tr [5] ?_
     refine tc (h := fun K hK => ?_) (hs := tn)
     try go_simp
     try go_wp2_with fail
     refine hK.out _ _ ?_ (fun hHeld => ?_)
     · (try dsimp only); go_keep
     clear hK K
     try simp only [zR]
     have B5 : Hid (Below w2.heap.size w2 (w2.alloc (.cells #[.int .i64 0, .slice none 0 0, .bool false, .slice none 0 0, .slice none 0 0] 43))) := ((Below.refl _ _).alloc (Nat.le_refl _) _)
     have Y5 : Hid (C5 (w2.alloc (.cells #[.int .i64 0, .slice none 0 0, .bool false, .slice none 0 0, .slice none 0 0] 43)) w2.heap.size (.int .i64 0) (.slice none 0 0) (.bool false) (.slice none 0 0) (.slice none 0 0)) := C5.new w2 (.int .i64 0) (.slice none 0 0) (.bool false) (.slice none 0 0) (.slice none 0 0)
     generalize (w2.alloc (.cells #[.int .i64 0, .slice none 0 0, .bool false, .slice none 0 0, .slice none 0 0] 43)) = w5 at *
     clear x0 x1 x2
     obtain ⟨x0, x1, x2, _, _, _⟩ := HAL.out _ ((B3.out.trans (B2.out.mono B3.out.size)).trans (B5.out.mono (B3.out.trans (B2.out.mono B3.out.size)).size))
     have kY := Y5.out.below (Below.refl _ _)
     obtain ⟨y0, y1, y2, y3, y4⟩ := kY.facts
     obtain ⟨t0, t1, t2, t3, t4⟩ := kY.thaw
     clear kY
     have mA : ¬ X1 = w2.heap.size := by have := HXL.out; have := (B3.out.trans (B2.out.mono B3.out.size)).size; omega
     have mB : ¬ w2.heap.size = X1 := fun e => mA e.symm
     refine tr [6] ?_
     refine tc (h := fun K hK => ?_) (hs := tn)
     try go_simp
     try go_wp2_with fail
     refine hK.out _ _ ?_ (fun hHeld => ?_)
     · (try dsimp only); go_keep
     clear hK K
     try simp only [zR]
     refine wpAnyH_done (by kernel_rfl) ?_ _
     go_wp2_with fail
     go_meet
     exact ⟨_, _, zb, rfl, Lib.hid (OneK.put (Y5.out.below (Below.refl _ _)) ((B3.out.trans (B2.out.mono B3.out.size)).size) ((B3.out.trans (B2.out.mono B3.out.size)).trans (B5.out.mono (B3.out.trans (B2.out.mono B3.out.size)).size)) ⟨(B5.out.block _ G2.out.2).trans G2.out.1, (HZ1.out.below ((B3.out.trans (B2.out.mono B3.out.size)).trans (B5.out.mono (B3.out.trans (B2.out.mono B3.out.size)).size))), (Z3.out.below (B2.out.trans (B5.out.mono B2.out.size)))⟩)⟩
    ·
     skip
     try go_simp
     try go_wp2_with fail
     refine hK.out _ _ ?_ (fun hHeld => ?_)
     · (try dsimp only); go_keep
     clear hK K
     try simp only [zR]
     have B5 : Hid (Below w3.heap.size w3 (w3.alloc (.cells #[.int .i64 0, .slice none 0 0, .bool false, .slice none 0 0, .slice none 0 0] 43))) := ((Below.refl _ _).alloc (Nat.le_refl _) _)
     have Y5 : Hid (C5 (w3.alloc (.cells #[.int .i64 0, .slice none 0 0, .bool false, .slice none 0 0, .slice none 0 0] 43)) w3.heap.size (.int .i64 0) (.slice none 0 0) (.bool false) (.slice none 0 0) (.slice none 0 0)) := C5.new w3 (.int .i64 0) (.slice none 0 0) (.bool false) (.slice none 0 0) (.slice none 0 0)
     generalize (w3.alloc (.cells #[.int .i64 0, .slice none 0 0, .bool false, .slice none 0 0, .slice none 0 0] 43)) = w5 at *
     clear x0 x1 x2
     obtain ⟨x0, x1, x2, _, _, _⟩ := HAL.out _ (B3.out.trans (B5.out.mono B3.out.size))
     refine tr [2] ?_
     refine tc (h := fun K hK => ?_) (hs := tn)
     try go_simp
     try go_wp2_with fail
     refine hK.out _ _ ?_ (fun hHeld => ?_)
     · (try dsimp only); go_keep
     clear hK K
     try simp only [zR]
     have B2 : Hid (Below w5.heap.size w5 (w5.alloc (.cells #[.int .i64 0, .bool z1.s, .slice z1.A z1.n z1.c, .slice z1.B z1.m z1.d] 40))) := ((Below.refl _ _).alloc (Nat.le_refl _) _)
     have G2 : Hid ((w5.alloc (.cells #[.int .i64 0, .bool z1.s, .slice z1.A z1.n z1.c, .slice z1.B z1.m z1.d] 40)).heap[w5.heap.size]? = some (.cells #[.int .i64 0, .bool z1.s, .slice z1.A z1.n z1.c, .slice z1.B z1.m z1.d] 40 (0, 0)) ∧ w5.heap.size < (w5.alloc (.cells #[.int .i64 0, .bool z1.s, .slice z1.A z1.n z1.c, .slice z1.B z1.m z1.d] 40)).heap.size) := ⟨heap_alloc_new w5 _, by simp⟩
     generalize (w5.alloc (.cells #[.int .i64 0, .bool z1.s, .slice z1.A z1.n z1.c, .slice z1.B z1.m z1.d] 40)) = w2 at *
     clear x0 x1 x2
     obtain ⟨x0, x1, x2, _, _, _⟩ := HAL.out _ ((B3.out.trans (B5.out.mono B3.out.size)).trans (B2.out.mono (B3.out.trans (B5.out.mono B3.out.size)).size))
     have kY := Y5.out.below B2.out
     obtain ⟨y0, y1, y2, y3, y4⟩ := kY.facts
     obtain ⟨t0, t1, t2, t3, t4⟩ := kY.thaw
     clear kY
     have mA : ¬ X1 = w3.heap.size := by have := HXL.out; have := B3.out.size; omega
     have mB : ¬ w3.heap.size = X1 := fun e => mA e.symm
     refine tk (i := 4) (h := ?_)
     try simp only [zR]
     refine tr [6] ?_
     refine tc (h := fun K hK => ?_) (hs := tn)
     try go_simp
     try go_wp2_with fail
     refine hK.out _ _ ?_ (fun hHeld => ?_)
     · (try dsimp only); go_keep
     clear hK K
     try simp only [zR]
     refine wpAnyH_done (by kernel_rfl) ?_ _
     go_wp2_with fail
     go_meet
     exact ⟨_, _, zb, rfl, Lib.hid (OneK.put (Y5.out.below B2.out) (B3.out.size) ((B3.out.trans (B5.out.mono B3.out.size)).trans (B2.out.mono (B3.out.trans (B5.out.mono B3.out.size)).size)) ⟨((Below.refl _ _).block _ G2.out.2).trans G2.out.1, (HZ1.out.below ((B3.out.trans (B5.out.mono B3.out.size)).trans (B2.out.mono (B3.out.trans (B5.out.mono B3.out.size)).size))), (Z3.out.below (B5.out.trans (B2.out.mono B5.out.size)))⟩)⟩
   ·
    skip
    try go_simp
    try go_wp2_with fail
    refine hK.out _ _ ?_ (fun hHeld => ?_)
    · (try dsimp only); go_keep
    clear hK K
    try simp only [zR]
    have B5 : Hid (Below W3.heap.size W3 (W3.alloc (.cells #[.int .i64 0, .slice none 0 0, .bool false, .slice none 0 0, .slice none 0 0] 43)).drew) := ((Below.refl _ _).alloc (Nat.le_refl _) _).drew
    have Y5 : Hid (C5 (W3.alloc (.cells #[.int .i64 0, .slice none 0 0, .bool false, .slice none 0 0, .slice none 0 0] 43)).drew W3.heap.size (.int .i64 0) (.slice none 0 0) (.bool false) (.slice none 0 0) (.slice none 0 0)) := C5.new W3 (.int .i64 0) (.slice none 0 0) (.bool false) (.slice none 0 0) (.slice none 0 0)
    generalize (W3.alloc (.cells #[.int .i64 0, .slice none 0 0, .bool false, .slice none 0 0, .slice none 0 0] 43)).drew = w5 at *
    clear x0 x1 x2
    obtain ⟨x0, x1, x2, _, _, _⟩ := HAL.out _ B5.out
    refine tr [2, 3] ?_
    refine tc (h := fun K hK => ?_) (hs := tc (h := fun K hK => ?_) (hs := tn))
    ·
     skip
     try go_simp
     try go_wp2_with fail
     refine hK.out _ _ ?_ (fun hHeld => ?_)
     · (try dsimp only); go_keep
     clear hK K
     try simp only [zR]
     have B2 : Hid (Below w5.heap.size w5 (w5.alloc (.cells #[.int .i64 0, .bool z1.s, .slice z1.A z1.n z1.c, .slice z1.B z1.m z1.d] 40))) := ((Below.refl _ _).alloc (Nat.le_refl _) _)
     have G2 : Hid ((w5.alloc (.cells #[.int .i64 0, .bool z1.s, .slice z1.A z1.n z1.c, .slice z1.B z1.m z1.d] 40)).heap[w5.heap.size]? = some (.cells #[.int .i64 0, .bool z1.s, .slice z1.A z1.n z1.c, .slice z1.B z1.m z1.d] 40 (0, 0)) ∧ w5.heap.size < (w5.alloc (.cells #[.int .i64 0, .bool z1.s, .slice z1.A z1.n z1.c, .slice z1.B z1.m z1.d] 40)).heap.size) := ⟨heap_alloc_new w5 _, by simp⟩
     generalize (w5.alloc (.cells #[.int .i64 0, .bool z1.s, .slice z1.A z1.n z1.c, .slice z1.B z1.m z1.d] 40)) = w2 at *
     clear x0 x1 x2
     obtain ⟨x0, x1, x2, _, _, _⟩ := HAL.out _ (B5.out.trans (B2.out.mono B5.out.size))
     refine tr [3] ?_
     refine tc (h := fun K hK => ?_) (hs := tn)
     try go_simp
     go_at_call 23
     refine (rInt_c (-5) _ (by omega)).mono ?_
     rintro e w3 ⟨zb, rfl, hz, hb⟩
     have Z3 := Lib.hid (hz.lower (Nat.zero_le _))
     have B3 := Lib.hid hb
     clear hz hb
     clear x0 x1 x2
     obtain ⟨x0, x1, x2, _, _, _⟩ := HAL.out _ ((B5.out.trans (B2.out.mono B5.out.size)).trans (B3.out.mono (B5.out.trans (B2.out.mono B5.out.size)).size))
     have kY := Y5.out.below (B2.out.trans (B3.out.mono B2.out.size))
     obtain ⟨y0, y1, y2, y3, y4⟩ := kY.facts
     obtain ⟨t0, t1, t2, t3, t4⟩ := kY.thaw
     clear kY
     have mA : ¬ X1 = W3.heap.size := by have := HXL.out; omega
     have mB : ¬ W3.heap.size = X1 := fun e => mA e.symm
     try go_wp2_with fail
     refine hK.out _ _ ?_ (fun hHeld => ?_)
     · (try dsimp only); go_keep
     clear hK K
     try simp only [zR]
     refine tk (i := 4) (h := ?_)
     try simp only [zR]
     refine tr [6] ?_
     refine tc (h := fun K hK => ?_) (hs := tn)
     try go_simp
     try go_wp2_with fail
     refine hK.out _ _ ?_ (fun hHeld => ?_)
     · (try dsimp only); go_keep
     clear hK K
     try simp only [zR]
     refine wpAnyH_done (by kernel_rfl) ?_ _
     go_wp2_with fail
     go_meet
     exact ⟨_, _, zb, rfl, Lib.hid (OneK.put (Y5.out.below (B2.out.trans (B3.out.mono B2.out.size))) (Nat.le_refl _) ((B5.out.trans (B2.out.mono B5.out.size)).trans (B3.out.mono (B5.out.trans (B2.out.mono B5.out.size)).size)) ⟨(B3.out.block _ G2.out.2).trans G2.out.1, (HZ1.out.below ((B5.out.trans (B2.out.mono B5.out.size)).trans (B3.out.mono (B5.out.trans (B2.out.mono B5.out.size)).size))), (Z3.out.below (Below.refl _ _))⟩)⟩
    ·
     skip
     try go_simp
     go_at_call 23
     refine (rInt_c (-5) _ (by omega)).mono ?_
     rintro e w3 ⟨zb, rfl, hz, hb⟩
     have Z3 := Lib.hid (hz.lower (Nat.zero_le _))
     have B3 := Lib.hid hb
     clear hz hb
     clear x0 x1 x2
     obtain ⟨x0, x1, x2, _, _, _⟩ := HAL.out _ (B5.out.trans (B3.out.mono B5.out.size))
     try go_wp2_with fail
     refine hK.out _ _ ?_ (fun hHeld => ?_)
     · (try dsimp only); go_keep
     clear hK K
     try simp only [zR]
     refine tr [2] ?_
     refine tc (h := fun K hK => ?_) (hs := tn)
     try go_simp
     try go_wp2_with fail
     refine hK.out _ _ ?_ (fun hHeld => ?_)
     · (try dsimp only); go_keep
     clear hK K
     try simp only [zR]
     have B2 : Hid (Below w3.heap.size w3 (w3.alloc (.cells #[.int .i64 0, .bool z1.s, .slice z1.A z1.n z1.c, .slice z1.B z1.m z1.d] 40))) := ((Below.refl _ _).alloc (Nat.le_refl _) _)
     have G2 : Hid ((w3.alloc (.cells #[.int .i64 0, .bool z1.s, .slice z1.A z1.n z1.c, .slice z1.B z1.m z1.d] 40)).heap[w3.heap.size]? = some (.cells #[.int .i64 0, .bool z1.s, .slice z1.A z1.n z1.c, .slice z1.B z1.m z1.d] 40 (0, 0)) ∧ w3.heap.size < (w3.alloc (.cells #[.int .i64 0, .bool z1.s, .slice z1.A z1.n z1.c, .slice z1.B z1.m z1.d] 40)).heap.size) := ⟨heap_alloc_new w3 _, by simp⟩
     generalize (w3.alloc (.cells #[.int .i64 0, .bool z1.s, .slice z1.A z1.n z1.c, .slice z1.B z1.m z1.d] 40)) = w2 at *
     clear x0 x1 x2
     obtain ⟨x0, x1, x2, _, _, _⟩ := HAL.out _ ((B5.out.trans (B3.out.mono B5.out.size)).trans (B2.out.mono (B5.out.trans (B3.out.mono B5.out.size)).size))
     have kY := Y5.out.below (B3.out.trans (B2.out.mono B3.out.size))
     obtain ⟨y0, y1, y2, y3, y4⟩ := kY.facts
     obtain ⟨t0, t1, t2, t3, t4⟩ := kY.thaw
     clear kY
     have mA : ¬ X1 = W3.heap.size := by have := HXL.out; omega
     have mB : ¬ W3.heap.size = X1 := fun e => mA e.symm
     refine tk (i := 4) (h := ?_)
     try simp only [zR]
     refine tr [6] ?_
     refine tc (h := fun K hK => ?_) (hs := tn)
     try go_simp
     try go_wp2_with fail
     refine hK.out _ _ ?_ (fun hHeld => ?_)
     · (try dsimp only); go_keep
     clear hK K
     try simp only [zR]
     refine wpAnyH_done (by kernel_rfl) ?_ _
     go_wp2_with fail
     go_meet
     exact ⟨_, _, zb, rfl, Lib.hid (OneK.put (Y5.out.below (B3.out.trans (B2.out.mono B3.out.size))) (Nat.le_refl _) ((B5.out.trans (B3.out.mono B5.out.size)).trans (B2.out.mono (B5.out.trans (B3.out.mono B5.out.size)).size)) ⟨((Below.refl _ _).block _ G2.out.2).trans G2.out.1, (HZ1.out.below ((B5.out.trans (B3.out.mono B5.out.size)).trans (B2.out.mono (B5.out.trans (B3.out.mono B5.out.size)).size))), (Z3.out.below B2.out)⟩)⟩
  case rest =>
   obtain ⟨Yb, Gb, zb, rfl, HKB⟩ := hcut
   generalize wc = W5 at *
   clear x0 x1 x2 HAL HXL HZ1
   have HA3 := Lib.hid (HKA.out.later HKB.out.below)
   have HB5 : Hid (Below w.heap.size w W5) := HK3.out.2.trans (HKB.out.below.mono HK3.out.2.size)
   have HTW : Hid (Two2 W5 Ga z1 z2 za ((1 : Int) : Rat) ((-1 : Int) : Rat) ((0 : Int) : Rat) ∧ One1 W5 Gb z1 zb ((1 : Int) : Rat) ((-5 : Int) : Rat)) := ⟨HA3.out.two, HKB.out.one⟩
   obtain ⟨a0, a1, a2, a3, a4⟩ := HA3.out.cell.facts
   obtain ⟨b0, b1, b2, b3, b4⟩ := HKB.out.cell.facts
   clear HKA HKB HA3 HK1 HK3
   go_wp2_with fail
   have HT : Hid (((W5.alloc (.cells #[.int .i64 0, .slice (some ⟨Ga, 0, none⟩) 2 2, .bool za.s, .slice za.A za.n za.c, .slice za.B za.m za.d, .int .i64 3, .slice (some ⟨Gb, 0, none⟩) 1 1, .bool zb.s, .slice zb.A zb.n zb.c, .slice zb.B zb.m zb.d] 43)).alloc (.cells #[.int .i64 (-1), .int .i64 (-1)] 3)).heap[W5.heap.size]? = some (.cells #[.int .i64 0, .slice (some ⟨Ga, 0, none⟩) 2 2, .bool za.s, .slice za.A za.n za.c, .slice za.B za.m za.d, .int .i64 3, .slice (some ⟨Gb, 0, none⟩) 1 1, .bool zb.s, .slice zb.A zb.n zb.c, .slice zb.B zb.m zb.d] 43 (0, 0)) ∧ ((W5.alloc (.cells #[.int .i64 0, .slice (some ⟨Ga, 0, none⟩) 2 2, .bool za.s, .slice za.A za.n za.c, .slice za.B za.m za.d, .int .i64 3, .slice (some ⟨Gb, 0, none⟩) 1 1, .bool zb.s, .slice zb.A zb.n zb.c, .slice zb.B zb.m zb.d] 43)).alloc (.cells #[.int .i64 (-1), .int .i64 (-1)] 3)).heap[W5.heap.size + 1]? = some (.cells #[.int .i64 (-1), .int .i64 (-1)] 3 (0, 0)) ∧ Below W5.heap.size W5 ((W5.alloc (.cells #[.int .i64 0, .slice (some ⟨Ga, 0, none⟩) 2 2, .bool za.s, .slice za.A za.n za.c, .slice za.B za.m za.d, .int .i64 3, .slice (some ⟨Gb, 0, none⟩) 1 1, .bool zb.s, .slice zb.A zb.n zb.c, .slice zb.B zb.m zb.d] 43)).alloc (.cells #[.int .i64 (-1), .int .i64 (-1)] 3))) := by
    refine ⟨(((Below.refl (W5.heap.size + 1) _).alloc (by simp) _).block W5.heap.size (by omega)).trans (heap_alloc_new W5 _), ?_, ((Below.refl _ _).alloc (Nat.le_refl _) _).alloc (by simp) _⟩
    have := heap_alloc_new (W5.alloc (.cells #[.int .i64 0, .slice (some ⟨Ga, 0, none⟩) 2 2, .bool za.s, .slice za.A za.n za.c, .slice za.B za.m za.d, .int .i64 3, .slice (some ⟨Gb, 0, none⟩) 1 1, .bool zb.s, .slice zb.A zb.n zb.c, .slice zb.B zb.m zb.d] 43)) (.cells #[.int .i64 (-1), .int .i64 (-1)] 3)
    simpa using this
   generalize (W5.alloc (.cells #[.int .i64 0, .slice (some ⟨Ga, 0, none⟩) 2 2, .bool za.s, .slice za.A za.n za.c, .slice za.B za.m za.d, .int .i64 3, .slice (some ⟨Gb, 0, none⟩) 1 1, .bool zb.s, .slice zb.A zb.n zb.c, .slice zb.B zb.m zb.d] 43)).alloc (.cells #[.int .i64 (-1), .int .i64 (-1)] 3) = W6 at *
   have HGN := Lib.hid (knAB_gns HT.out.1 (HTW.out.1.below HT.out.2.2) (HTW.out.2.below HT.out.2.2))
   refine (Settle_c W6 2 2 (some ⟨W5.heap.size, 0, none⟩) 2 (knAB Ga Gb z1 z2 za zb) (some ⟨W5.heap.size + 1, 0, none⟩) 2 2 [-1, -1] W6 HGN.out.1 (by omega) (by omega) (two_ints HT.out.2.1) (Below.refl _ _)).mono ?_
   rintro e w7 hst
   obtain ⟨g7, c7, rfl, hz7, hb7⟩ := known_settled HGN.out.2 hst
   have H7 : Hid (OwnZ w7 W6.heap.size (some ⟨g7, 0, none⟩) c7 2 [1, 0] ∧ Below w.heap.size w w7) := ⟨hz7, (HB5.out.trans (HT.out.2.2.mono HB5.out.size)).trans (hb7.mono (by have := HB5.out.size; have := HT.out.2.2.size; omega))⟩
   clear hst hz7 hb7 a0 a1 a2 a3 a4 b0 b1 b2 b3 b4 HT HGN HTW HB5
   go_wp2_with fail
   have HT2 : Hid ((w7.alloc (.cells #[.int .i64 1, .int .i64 0] 3)).heap[w7.heap.size]? = some (.cells #[.int .i64 1, .int .i64 0] 3 (0, 0)) ∧ Below w7.heap.size w7 (w7.alloc (.cells #[.int .i64 1, .int .i64 0] 3))) := ⟨heap_alloc_new w7 _, (Below.refl _ _).alloc (Nat.le_refl _) _⟩
   generalize w7.alloc (.cells #[.int .i64 1, .int .i64 0] 3) = W8 at *
   refine (numbers_c (some ⟨g7, 0, none⟩) (some ⟨w7.heap.size, 0, none⟩) 2 2 c7 2 [1, 0] [1, 0] W8 (H7.out.1.row.below HT2.out.2) (two_ints HT2.out.1) (by omega) (by omega)).mono ?_
   rintro e w9 ⟨⟨r, rfl, hr⟩, hb9⟩
   obtain rfl : r = true := hr.2 rfl
   have HB9 : Hid (Below w.heap.size w w9) := (H7.out.2.trans (HT2.out.2.mono H7.out.2.size)).trans (hb9.mono (by have := H7.out.2.size; have := HT2.out.2.size; omega))
   clear hr hb9
   go_wp2
   go_ret
   exact ⟨rfl, HB9.out⟩
end Go.Proofs.Ytjbhhccklfddaaa
