/-
  Histories: pushed, taken back, done again; the document's own.
-/
import Derived.Test.YtaifgehmlfjljaaHsA
namespace Go.Proofs.Ytaifgehmlfjljaa
set_option maxRecDepth 20000
open Go.RowKit

/-- How many of the first ones go. -/
def gone (n : Nat) : Nat := n + 1 - 32
theorem Strs.lt {w : World} {A : Option Addr} {n : Nat} {ss : List ByteArray} (h : Strs w A n ss) (hn : 0 < n) : ∃ b off, A = some ⟨b, off, none⟩ ∧ b < w.heap.size := by
  obtain ⟨b, off, e, h1, _⟩ := h.mem hn
  exact ⟨b, off, e, h1⟩
set_option maxHeartbeats 3200000 in
theorem Push_c (A B : Option Addr) (n c m d : Nat) (l : List ByteArray) (s : ByteArray) (w : World) (h : Strs w A n l) (hn : n ≤ 1500000) (hc : n ≤ c) (hs : s.size ≤ 2000000) :
    Calls Try.prog 15 #[.agg #[.slice A n c, .slice B m d], .string s] w fun e w' => ∃ A2 c2, e = .returned (.agg #[.slice A2 (n - gone n + 1) c2, .slice none 0 0]) ∧ OwnS w' w.heap.size A2 c2 (n - gone n + 1) (l.drop (gone n) ++ [s]) ∧ Below w.heap.size w w' := by
  have HH := Lib.hid (And.intro h hs)
  have n0 : (0 : Int) ≤ (n : Int) := by omega
  have n9 : (n : Int) ≤ 1500000 := by omega
  have hb0 : Below w.heap.size w ((w.alloc (.cells #[.slice A n c, .slice B m d] 24)).alloc (.cells #[.slice none 0 0, .slice none 0 0] 24)) := ((Below.refl _ _).alloc (Nat.le_refl _) _).alloc (by simp) _
  have k1 : C2 ((w.alloc (.cells #[.slice A n c, .slice B m d] 24)).alloc (.cells #[.slice none 0 0, .slice none 0 0] 24)) w.heap.size 24 (.slice A n c) (.slice B m d) := (C2.newAt _ _ _ rfl).below (below_alloc _ _)
  have k2 : C2 ((w.alloc (.cells #[.slice A n c, .slice B m d] 24)).alloc (.cells #[.slice none 0 0, .slice none 0 0] 24)) (w.heap.size + 1) 24 (.slice none 0 0) (.slice none 0 0) := C2.newAt _ _ _ (by simp)
  have hsz : ((w.alloc (.cells #[.slice A n c, .slice B m d] 24)).alloc (.cells #[.slice none 0 0, .slice none 0 0] 24)).heap.size = w.heap.size + 2 := by simp
  have HB := Lib.hid (And.intro hb0 (And.intro k1 (And.intro k2 hsz)))
  clear hb0 k1 k2 hsz h
  go_enter Try.func15, Try.ntmps15
  have hg : Hid (gone n ≤ n ∧ (n < 32 → gone n = 0) ∧ (32 ≤ n → (gone n : Int) = (n : Int) + 1 - 32 ∧ gone n < n)) := by unfold gone; exact ⟨by omega, fun _ => by omega, fun _ => by omega⟩
  generalize gone n = f at *
  by_cases h32 : n < 32
  · obtain rfl : f = 0 := hg.out.2.1 h32
    have i1 : max (0 : Int) ((n : Int) + 1 - 32) = 0 := by omega
    go_wp2_with fail
    refine (with_c A n c l s _ (HH.out.1.below HB.out.1) (by omega) HH.out.2).mono ?_
    rintro e w1 ⟨A2, c2, rfl, ho, hb⟩
    have H1 : Hid (OwnS w1 w.heap.size A2 c2 (n + 1) (l.drop 0 ++ [s]) ∧ Below w.heap.size w w1) := ⟨ho.lower (by have := HB.out.2.2.2; omega), HB.out.1.trans (hb.mono (by have := HB.out.2.2.2; omega))⟩
    have k2 := HB.out.2.2.1.below hb
    have hl : w.heap.size + 1 < w1.heap.size := by have := hb.size; have := HB.out.2.2.2; omega
    obtain ⟨f0, f1⟩ := k2.facts
    have f2 := k2.thaw 0
    have f3 := k2.thaw 1
    have K2 := Lib.hid k2
    clear ho hb k2
    go_wp2
    refine ret2 (fn := Try.f15) Try.results15 rfl rfl (K2.out.put _ _) ?_
    exact ⟨A2, c2, rfl, H1.out.1.put K2.out (by decide) _ _, H1.out.2.trans (put2_below (by omega))⟩
  · obtain ⟨hf1, hf2⟩ := hg.out.2.2 (by omega)
    obtain ⟨b, off, rfl, hbl⟩ := HH.out.1.lt (by omega)
    have i1 : max (0 : Int) ((n : Int) + 1 - 32) = (f : Int) := by omega
    have i2 : ¬ c = f := by omega
    have f0 : (0 : Int) ≤ (f : Int) := by omega
    have f1 : (f : Int) ≤ (n : Int) := by omega
    have HF := Lib.hid hf1
    clear hf1
    go_wp2_with fail
    refine (with_c (some ⟨b, off + f, none⟩) (n - f) (c - f) (l.drop f) s _ ((HH.out.1.below HB.out.1).drop (by omega)) (by omega) HH.out.2).mono ?_
    rintro e w1 ⟨A2, c2, rfl, ho, hb⟩
    have H1 : Hid (OwnS w1 w.heap.size A2 c2 ((n - f) + 1) (l.drop f ++ [s]) ∧ Below w.heap.size w w1) := ⟨ho.lower (by have := HB.out.2.2.2; omega), HB.out.1.trans (hb.mono (by have := HB.out.2.2.2; omega))⟩
    have k2 := HB.out.2.2.1.below hb
    have hl : w.heap.size + 1 < w1.heap.size := by have := hb.size; have := HB.out.2.2.2; omega
    obtain ⟨f0, f1⟩ := k2.facts
    have f2 := k2.thaw 0
    have f3 := k2.thaw 1
    have K2 := Lib.hid k2
    clear ho hb k2
    go_wp2
    refine ret2 (fn := Try.f15) Try.results15 rfl rfl (K2.out.put _ _) ?_
    exact ⟨A2, c2, rfl, H1.out.1.put K2.out (by decide) _ _, H1.out.2.trans (put2_below (by omega))⟩
/-- A call's two blocks: what came in, what will be answered. -/
structure Two (w W : World) (x y : Value) : Prop where
  b0 : C2 W w.heap.size 24 x y
  b1 : C2 W (w.heap.size + 1) 24 (.slice none 0 0) (.slice none 0 0)
  size : W.heap.size = w.heap.size + 2
  below : Below w.heap.size w W
theorem Two.new (w : World) (x y : Value) : Two w ((w.alloc (.cells #[x, y] 24)).alloc (.cells #[.slice none 0 0, .slice none 0 0] 24)) x y :=
  ⟨(C2.newAt _ _ _ rfl).below (below_alloc _ _), C2.newAt _ _ _ (by simp), by simp, ((Below.refl _ _).alloc (Nat.le_refl _) _).alloc (by simp) _⟩
theorem bel1 (w : World) : Below w.heap.size w w.drew := ⟨rfl, rfl, rfl, Nat.le_refl _, fun _ _ => rfl⟩
set_option maxHeartbeats 3200000 in
theorem owned_c (A B : Option Addr) (n c m d : Nat) (l k : List ByteArray) (w : World) (h : Strs w A n l) (h' : Strs w B m k) (hn : n ≤ 2000000) (hm : m ≤ 2000000) :
    Calls Try.prog 31 #[.agg #[.slice A n c, .slice B m d]] w fun e w' => ∃ A2 c2 B2 d2, e = .returned (.agg #[.slice A2 n c2, .slice B2 m d2]) ∧ OwnS w' w.heap.size A2 c2 n l ∧ OwnS w' w.heap.size B2 d2 m k ∧ Below w.heap.size w w' := by
  have HT := Lib.hid (Two.new w (.slice A n c) (.slice B m d))
  have HH := Lib.hid (And.intro h h')
  clear h h'
  go_enter Try.func31, Try.ntmps31
  go_wp2_with fail
  generalize ((w.alloc (.cells #[.slice A n c, .slice B m d] 24)).alloc (.cells #[.slice none 0 0, .slice none 0 0] 24)) = W at *
  have HALL : Hid (∀ w', Below W.heap.size W w' → C2 w' w.heap.size 24 (.slice A n c) (.slice B m d) ∧ C2 w' (w.heap.size + 1) 24 (.slice none 0 0) (.slice none 0 0) ∧ Strs w' A n l ∧ Strs w' B m k ∧ Below w.heap.size w w' ∧ w.heap.size + 2 ≤ w'.heap.size) := fun w' hb =>
    ⟨HT.out.b0.below hb, HT.out.b1.below hb, (HH.out.1.below HT.out.below).below hb, (HH.out.2.below HT.out.below).below hb, HT.out.below.trans (hb.mono (by have := HT.out.size; omega)), by have := hb.size; have := HT.out.size; omega⟩
  obtain ⟨a0, a1⟩ := HT.out.b0.facts
  clear HT HH
  have mk0 : True := trivial
  go_region_held3 (fun w' => w'.cell? ⟨w.heap.size, 0, none⟩ = some (.slice A n c) ∧ w'.cell? ⟨w.heap.size, 1, none⟩ = some (.slice B m d)) (go_keep)
      (first
      | (go_at_call 32
         clear mk0
         refine (own_c A n c l _ (HALL.out _ (bel1 W)).2.2.1 hn).mono ?_
         rintro e w1 ⟨A2, c2, rfl, ho, hb⟩
         have hbW := (bel1 W).trans hb
         have H1 := Lib.hid (And.intro ho hbW)
         obtain ⟨a0, a1⟩ := (HALL.out _ hbW).1.facts
         have mk1 : True := trivial
         clear ho hb hbW)
      | (go_at_call 32
         clear mk1
         refine (own_c B m d k _ (HALL.out _ H1.out.2).2.2.2.1 hm).mono ?_
         rintro e w2 ⟨B2, d2, rfl, ho, hb⟩
         have hbW := H1.out.2.trans (hb.mono H1.out.2.size)
         have H2 := Lib.hid (And.intro (H1.out.1.below hb) (And.intro ho hbW))
         obtain ⟨a0, a1⟩ := (HALL.out _ hbW).1.facts
         have f2 := (HALL.out _ hbW).2.1.thaw 0
         have f3 := (HALL.out _ hbW).2.1.thaw 1
         have hl := (HALL.out _ hbW).2.2.2.2.2
         obtain ⟨z0, z1⟩ := (HALL.out _ hbW).2.1.facts
         have mk2 : True := trivial
         clear ho hb hbW))
  go_wp2
  refine ret2 (fn := Try.f31) Try.results31 rfl rfl ((HALL.out _ H2.out.2.2).2.1.put _ _) ?_
  have g1 := (HALL.out _ H1.out.2).2.2.2.2.2
  have g0 := (HALL.out _ (bel1 W)).2.2.2.2.2
  refine ⟨A2, c2, B2, d2, rfl, (H2.out.1.put (HALL.out _ H2.out.2.2).2.1 (by decide) _ _).lower (by omega), (H2.out.2.1.put (HALL.out _ H2.out.2.2).2.1 (by decide) _ _).lower (by omega), (HALL.out _ H2.out.2.2).2.2.2.2.1.trans (put2_below (by omega))⟩
end Go.Proofs.Ytaifgehmlfjljaa
