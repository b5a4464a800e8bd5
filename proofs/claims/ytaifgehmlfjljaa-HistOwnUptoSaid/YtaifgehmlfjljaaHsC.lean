/-
  Histories: what is taken back.
-/
import Derived.Test.YtaifgehmlfjljaaHsB
namespace Go.Proofs.Ytaifgehmlfjljaa
set_option maxRecDepth 20000
open Go.RowKit

set_option maxHeartbeats 3200000 in
theorem Undo_no (A B : Option Addr) (n c m d : Nat) (l k : List ByteArray) (s : ByteArray) (w : World) (h : Strs w A n l) (h' : Strs w B m k) (hn : n ≤ 2000000) (hm : m ≤ 2000000) (h0 : n = 0) :
    Calls Try.prog 11 #[.agg #[.slice A n c, .slice B m d], .string s] w fun e w' => ∃ A2 c2 B2 d2, e = .returned (.tuple #[.agg #[.slice A2 n c2, .slice B2 m d2], .string ⟨#[]⟩, .bool false]) ∧ OwnS w' w.heap.size A2 c2 n l ∧ OwnS w' w.heap.size B2 d2 m k ∧ Below w.heap.size w w' := by
  have HT := Lib.hid (Two.new w (.slice A n c) (.slice B m d))
  have HH := Lib.hid (And.intro h h')
  clear h h'
  subst h0
  go_enter Try.func11, Try.ntmps11
  go_wp2_with fail
  have hb1 : Below w.heap.size w ((w.alloc (.cells #[.slice A 0 c, .slice B m d] 24)).alloc (.cells #[.slice none 0 0, .slice none 0 0] 24)) := HT.out.below
  refine (owned_c A B 0 c m d l k _ (HH.out.1.below hb1) (HH.out.2.below hb1) (by omega) (by omega)).mono ?_
  rintro e w1 ⟨A2, c2, B2, d2, rfl, ho, ho', hb⟩
  have hsz := HT.out.size
  have k2 := HT.out.b1.below hb
  have H1 := Lib.hid (And.intro (ho.lower (lo' := w.heap.size) (by omega)) (And.intro (ho'.lower (lo' := w.heap.size) (by omega)) (And.intro (hb1.trans (hb.mono (by omega))) k2)))
  obtain ⟨f0, f1⟩ := k2.facts
  have f2 := k2.thaw 0
  have f3 := k2.thaw 1
  have hl := k2.lt
  clear ho ho' hb k2 hb1 HT HH hsz
  go_wp2
  refine ret2t (fn := Try.f11) Try.results11 rfl rfl rfl rfl (H1.out.2.2.2.put _ _) ?_
  exact ⟨A2, c2, B2, d2, rfl, H1.out.1.put H1.out.2.2.2 (by decide) _ _, H1.out.2.1.put H1.out.2.2.2 (by decide) _ _, H1.out.2.2.1.trans (put2_below (by omega))⟩
set_option maxHeartbeats 6400000 in
theorem Undo_yes (A B : Option Addr) (q c m d : Nat) (l k : List ByteArray) (s x : ByteArray) (w : World) (h : Strs w A (q + 1) l) (h' : Strs w B m k) (hn : q + 1 ≤ 1500000) (hm : m ≤ 1500000) (hs : s.size ≤ 2000000) (hx : l[q]? = some x) (hc : q + 1 ≤ c) :
    Calls Try.prog 11 #[.agg #[.slice A (q + 1) c, .slice B m d], .string s] w fun e w' => ∃ A2 c2 B2 d2, e = .returned (.tuple #[.agg #[.slice A2 q c2, .slice B2 (m + 1) d2], .string x, .bool true]) ∧ OwnS w' w.heap.size A2 c2 q (l.take q) ∧ OwnS w' w.heap.size B2 d2 (m + 1) (k ++ [s]) ∧ Below w.heap.size w w' := by
  have HX := Lib.hid (And.intro hx (And.intro (h.sz x (List.mem_of_getElem? hx)) hs))
  obtain ⟨b, off, rfl, hbl, hcell⟩ := h.mem (Nat.succ_pos _)
  have HT := Lib.hid (Two.new w (.slice (some ⟨b, off, none⟩) (q + 1) c) (.slice B m d))
  have hxc := hcell q x hx
  have n0 : (0 : Int) ≤ (q : Int) := by omega
  have n2 : (q : Int) ≤ 1500000 := by omega
  have n4 : q ≤ c := by omega
  have n5 : (q : Int) < (q : Int) + 1 := by omega
  have HH := Lib.hid (And.intro h (And.intro h' hxc))
  clear h h' hx hcell hxc
  go_enter Try.func11, Try.ntmps11
  go_wp2_with fail
  generalize ((w.alloc (.cells #[.slice (some ⟨b, off, none⟩) (q + 1) c, .slice B m d] 24)).alloc (.cells #[.slice none 0 0, .slice none 0 0] 24)) = W at *
  have HALL : Hid (∀ w', Below W.heap.size W w' → C2 w' w.heap.size 24 (.slice (some ⟨b, off, none⟩) (q + 1) c) (.slice B m d) ∧ C2 w' (w.heap.size + 1) 24 (.slice none 0 0) (.slice none 0 0) ∧ Strs w' (some ⟨b, off, none⟩) (q + 1) l ∧ Strs w' B m k ∧ Below w.heap.size w w' ∧ w.heap.size + 2 ≤ w'.heap.size) := fun w' hb =>
    ⟨HT.out.b0.below hb, HT.out.b1.below hb, (HH.out.1.below HT.out.below).below hb, (HH.out.2.1.below HT.out.below).below hb, HT.out.below.trans (hb.mono (by have := HT.out.size; omega)), by have := hb.size; have := HT.out.size; omega⟩
  have HC : Hid (∀ w', Below W.heap.size W w' → w'.cell? ⟨b, off + q, none⟩ = some (.string x)) := fun w' hb => (hb.cell (p := ⟨b, _, _⟩) (by have := HT.out.below.size; show b < _; omega)).trans ((HT.out.below.cell (p := ⟨b, _, _⟩) hbl).trans HH.out.2.2)
  obtain ⟨a0, a1⟩ := HT.out.b0.facts
  have a2 := HC.out _ (Below.refl _ _)
  have hb1 : ¬ b = w.heap.size := by omega
  have hb2 : ¬ b = w.heap.size + 1 := by omega
  have hb3 : ¬ w.heap.size + 1 = b := by omega
  clear HT HH hbl
  have mk0 : True := trivial
  go_region_held3 (fun w' => w'.cell? ⟨w.heap.size, 0, none⟩ = some (.slice (some ⟨b, off, none⟩) (q + 1) c) ∧ w'.cell? ⟨w.heap.size, 1, none⟩ = some (.slice B m d) ∧ w'.cell? ⟨b, off + q, none⟩ = some (.string x)) (go_keep)
      (first
      | (go_at_call 32
         clear mk0
         refine (own_c (some ⟨b, off, none⟩) q c (l.take q) _ ((HALL.out _ (bel1 W)).2.2.1.take (by omega)) (by omega)).mono ?_
         rintro e w1 ⟨A2, c2, rfl, ho, hb⟩
         have hbW := (bel1 W).trans hb
         have H1 := Lib.hid (And.intro ho hbW)
         obtain ⟨a0, a1⟩ := (HALL.out _ hbW).1.facts
         have a2 := HC.out _ hbW
         have mk1 : True := trivial
         clear ho hb hbW)
      | (go_at_call 33
         clear mk1
         refine (with_c B m d k s _ (HALL.out _ H1.out.2).2.2.2.1 (by omega) HX.out.2.2).mono ?_
         rintro e w2 ⟨B2, d2, rfl, ho, hb⟩
         have hbW := H1.out.2.trans (hb.mono H1.out.2.size)
         have H2 := Lib.hid (And.intro (H1.out.1.below hb) (And.intro ho hbW))
         obtain ⟨a0, a1⟩ := (HALL.out _ hbW).1.facts
         have a2 := HC.out _ hbW
         have mk2 : True := trivial
         clear ho hb hbW)
      | (go_at_call 34
         clear mk2
         refine (ClS_c x _ HX.out.2.1).mono ?_
         rintro e w3 ⟨rfl, hb⟩
         have hbW := H2.out.2.2.trans (hb.mono H2.out.2.2.size)
         have H3 := Lib.hid (And.intro (H2.out.1.below hb) (And.intro (H2.out.2.1.below hb) hbW))
         obtain ⟨a0, a1⟩ := (HALL.out _ hbW).1.facts
         have a2 := HC.out _ hbW
         have f2 := (HALL.out _ hbW).2.1.thaw 0
         have f3 := (HALL.out _ hbW).2.1.thaw 1
         have hl := (HALL.out _ hbW).2.2.2.2.2
         obtain ⟨z0, z1⟩ := (HALL.out _ hbW).2.1.facts
         have mk3 : True := trivial
         clear hb hbW))
  go_wp2
  refine ret2t (fn := Try.f11) Try.results11 rfl rfl rfl rfl ((HALL.out _ H3.out.2.2).2.1.put _ _) ?_
  have g1 := (HALL.out _ H1.out.2).2.2.2.2.2
  have g0 := (HALL.out _ (bel1 W)).2.2.2.2.2
  have g2 := (HALL.out _ H2.out.2.2).2.2.2.2.2
  exact ⟨A2, c2, B2, d2, rfl, (H3.out.1.put (HALL.out _ H3.out.2.2).2.1 (by decide) _ _).lower (by omega), (H3.out.2.1.put (HALL.out _ H3.out.2.2).2.1 (by decide) _ _).lower (by omega), (HALL.out _ H3.out.2.2).2.2.2.2.1.trans (put2_below (by omega))⟩
end Go.Proofs.Ytaifgehmlfjljaa
