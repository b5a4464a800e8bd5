/-
  What is taken back comes again: the walk.
-/
import Derived.Test.YtaifgehmlfjljaaHsF
namespace Go.Proofs.Ytaifgehmlfjljaa
set_option maxRecDepth 20000
open Go.RowKit

theorem take_one {l : List ByteArray} {q : Nat} {x : ByteArray} (hx : l[q]? = some x) (hl : l.length = q + 1) : l.take q ++ [x] = l := by
  apply List.ext_getElem?; intro j
  rw [List.getElem?_append, List.length_take, List.getElem?_take]
  by_cases hj : j < q
  · rw [if_pos (by omega), if_pos hj]
  · rw [if_neg (by omega)]
    by_cases he : j = q
    · subst he; rw [hx, show j - min j l.length = 0 by omega]; rfl
    · rw [List.getElem?_eq_none (by simp; omega), List.getElem?_eq_none (by omega)]
set_option maxHeartbeats 6400000 in
theorem HistBack_c (A B : Option Addr) (n c m d : Nat) (l k : List ByteArray) (s : ByteArray) (w : World) (h : Strs w A n l) (h' : Strs w B m k) (hn : n ≤ 1200000) (hm : m ≤ 1200000) (hs : s.size ≤ 2000000) (hc : n ≤ c) :
    Calls Try.prog 3 #[.agg #[.slice A n c, .slice B m d], .string s] w fun e w' => e = .returned (.bool true) ∧ Below w.heap.size w w' := by
  have HB : Hid (Below w.heap.size w (w.alloc (.cells #[.slice A n c, .slice B m d] 24))) := below_alloc _ _
  have k0 : C2 (w.alloc (.cells #[.slice A n c, .slice B m d] 24)) w.heap.size 24 (.slice A n c) (.slice B m d) := C2.newAt _ _ _ rfl
  have HZ := Lib.hid (And.intro h.sz (And.intro h'.sz (And.intro h.len h'.len)))
  have hsz : (w.alloc (.cells #[.slice A n c, .slice B m d] 24)).heap.size = w.heap.size + 1 := by simp
  have HS := Lib.hid (And.intro (h.below HB.out) (And.intro (h'.below HB.out) hsz))
  have K0 := Lib.hid k0
  clear h h' k0 hsz
  go_enter Try.func3, Try.ntmps3
  go_wp2_with fail
  generalize w.alloc (.cells #[.slice A n c, .slice B m d] 24) = W at *
  refine (long_c A B n c m d l k _ HS.out.1 HS.out.2.1 (by omega) (by omega)).mono ?_
  rintro e w1 ⟨⟨r, rfl⟩, hb⟩
  have H1 : Hid (Below w.heap.size w w1 ∧ Strs w1 A n l ∧ Strs w1 B m k ∧ C2 w1 w.heap.size 24 (.slice A n c) (.slice B m d)) := ⟨HB.out.trans (hb.mono HB.out.size), HS.out.1.below hb, HS.out.2.1.below hb, K0.out.below hb⟩
  obtain ⟨a0, a1⟩ := H1.out.2.2.2.facts
  clear hb HB HS K0
  cases r with
  | true =>
    go_wp2
    go_ret
    exact ⟨rfl, H1.out.1⟩
  | false =>
    by_cases h500 : 500 < s.size
    · have i1 : (500 : Int) < (s.size : Int) := by omega
      go_wp2
      go_ret
      exact ⟨rfl, H1.out.1⟩
    · have i1 : ¬ (500 : Int) < (s.size : Int) := by omega
      cases n with
      | zero =>
        go_wp2_with fail
        refine (Undo_no A B 0 c m d l k s _ H1.out.2.1 H1.out.2.2.1 (by omega) (by omega) rfl).mono ?_
        rintro e w2 ⟨A2, c2, B2, d2, rfl, ho, ho', hb⟩
        have H2 : Hid (Below w.heap.size w w2 ∧ C2 w2 w.heap.size 24 (.slice A 0 c) (.slice B m d)) := ⟨H1.out.1.trans (hb.mono H1.out.1.size), H1.out.2.2.2.below hb⟩
        obtain ⟨a0, a1⟩ := H2.out.2.facts
        have hl := H2.out.2.lt
        clear ho ho' hb
        go_wp2_with fail
        refine (known_c _).mono ?_
        rintro e w3 ⟨rfl, hb⟩
        have H3 : Hid (Below w.heap.size w w3) := (H2.out.1.alloc H2.out.1.size _).trans (hb.mono (by have := H2.out.1.size; simp; omega))
        clear hb
        go_wp2
        go_ret
        exact ⟨rfl, H3.out⟩
      | succ q =>
        obtain ⟨x, hx⟩ : ∃ x, l[q]? = some x := ⟨_, List.getElem?_eq_getElem (by have := HZ.out.2.2.1; omega)⟩
        have HX : Hid (l.take q ++ [x] = l ∧ x.size ≤ 2000000) := ⟨take_one hx HZ.out.2.2.1, HZ.out.1 x (List.mem_of_getElem? hx)⟩
        go_wp2_with fail
        refine (Undo_yes A B q c m d l k s x _ H1.out.2.1 H1.out.2.2.1 (by omega) (by omega) hs hx hc).mono ?_
        rintro e w2 ⟨A2, c2, B2, d2, rfl, ho, ho', hb⟩
        have HB2 : Hid (Below w.heap.size w (w2.alloc (.cells #[.slice A2 q c2, .slice B2 (m + 1) d2] 24))) := (H1.out.1.trans (hb.mono H1.out.1.size)).alloc (Nat.le_trans H1.out.1.size hb.size) _
        have H2 : Hid (C2 (w2.alloc (.cells #[.slice A2 q c2, .slice B2 (m + 1) d2] 24)) w.heap.size 24 (.slice A (q + 1) c) (.slice B m d) ∧ C2 (w2.alloc (.cells #[.slice A2 q c2, .slice B2 (m + 1) d2] 24)) w2.heap.size 24 (.slice A2 q c2) (.slice B2 (m + 1) d2)
            ∧ Strs (w2.alloc (.cells #[.slice A2 q c2, .slice B2 (m + 1) d2] 24)) A2 q (l.take q) ∧ Strs (w2.alloc (.cells #[.slice A2 q c2, .slice B2 (m + 1) d2] 24)) B2 (m + 1) (k ++ [s]) ∧ m + 1 ≤ d2) :=
          ⟨(H1.out.2.2.2.below hb).below (below_alloc _ _), C2.newAt _ _ _ rfl, (ho.strs fun y hy => HZ.out.1 y (List.mem_of_mem_take hy)).below (below_alloc _ _), (ho'.strs fun y hy => by
            rcases List.mem_append.1 hy with hy | hy
            · exact HZ.out.2.1 y hy
            · simp at hy; subst hy; exact hs).below (below_alloc _ _), ho'.capLe⟩
        have H0 : Hid (Strs w2 A (q + 1) l ∧ Strs w2 B m k) := ⟨H1.out.2.1.below hb, H1.out.2.2.1.below hb⟩
        have hl : w.heap.size < w2.heap.size := (H1.out.2.2.2.below hb).lt
        obtain ⟨b0, b1⟩ := (H1.out.2.2.2.below hb).facts
        clear ho ho' hb a0 a1 hx
        go_wp2_with fail
        refine (Redo_yes A2 B2 q c2 m d2 (l.take q) (k ++ [s]) x s _ H2.out.2.2.1 H2.out.2.2.2.1 (by omega) (by omega) HX.out.2 (by rw [List.getElem?_append_right (by have := HZ.out.2.2.2; omega), HZ.out.2.2.2, Nat.sub_self]; rfl) H2.out.2.2.2.2).mono ?_
        rintro e w3 ⟨A3, c3, B3, d3, rfl, ho, ho', hb⟩
        have HB3 : Hid (Below w.heap.size w (w3.alloc (.cells #[.slice A3 (q + 1) c3, .slice B3 m d3] 24))) := (HB2.out.trans (hb.mono HB2.out.size)).alloc (Nat.le_trans HB2.out.size hb.size) _
        have k0 := H2.out.1.below hb
        have k1 := H2.out.2.1.below hb
        have HK : Hid (C2 (w3.alloc (.cells #[.slice A3 (q + 1) c3, .slice B3 m d3] 24)) w.heap.size 24 (.slice A (q + 1) c) (.slice B m d) ∧ C2 (w3.alloc (.cells #[.slice A3 (q + 1) c3, .slice B3 m d3] 24)) w2.heap.size 24 (.slice A2 q c2) (.slice B2 (m + 1) d2) ∧ C2 (w3.alloc (.cells #[.slice A3 (q + 1) c3, .slice B3 m d3] 24)) w3.heap.size 24 (.slice A3 (q + 1) c3) (.slice B3 m d3)) :=
          ⟨k0.below (below_alloc _ _), k1.below (below_alloc _ _), C2.newAt _ _ _ rfl⟩
        have HS : Hid (Strs (w3.alloc (.cells #[.slice A3 (q + 1) c3, .slice B3 m d3] 24)) A3 (q + 1) l ∧ Strs (w3.alloc (.cells #[.slice A3 (q + 1) c3, .slice B3 m d3] 24)) B3 m k ∧ Strs (w3.alloc (.cells #[.slice A3 (q + 1) c3, .slice B3 m d3] 24)) A (q + 1) l ∧ Strs (w3.alloc (.cells #[.slice A3 (q + 1) c3, .slice B3 m d3] 24)) B m k) := by
          rw [HX.out.1] at ho
          have e9 : (k ++ [s]).take m = k := by rw [List.take_append_of_le_length (by have := HZ.out.2.2.2; omega), List.take_of_length_le (by have := HZ.out.2.2.2; omega)]
          rw [e9] at ho'
          exact ⟨(ho.strs HZ.out.1).below (below_alloc _ _), (ho'.strs HZ.out.2.1).below (below_alloc _ _), ((H0.out.1.below (below_alloc _ _)).below hb).below (below_alloc _ _), ((H0.out.2.below (below_alloc _ _)).below hb).below (below_alloc _ _)⟩
        obtain ⟨p0, p1⟩ := k0.facts
        obtain ⟨q0, q1⟩ := k1.facts
        have l0 := k0.lt
        have l1 := k1.lt
        have hbe : (s.toList == s.toList) = true := beq_self_eq_true _
        have i5 : (0 : Int) ≤ (q : Int) := by omega
        have i6 : (q : Int) ≤ 1200000 := by omega
        clear ho ho' hb k0 k1 b0 b1
        go_wp2_with fail
        refine (same_c A3 B3 A B (q + 1) c3 m d3 c d l k _ HS.out.1 HS.out.2.1 HS.out.2.2.1 HS.out.2.2.2 (by omega) (by omega)).mono ?_
        rintro e w4 ⟨rfl, hb⟩
        have H4 := Lib.hid (HB3.out.trans (hb.mono HB3.out.size))
        obtain ⟨p0, p1⟩ := (HK.out.1.below hb).facts
        obtain ⟨q0, q1⟩ := (HK.out.2.1.below hb).facts
        clear hb
        go_wp2_with fail
        refine (known_c _).mono ?_
        rintro e w5 ⟨rfl, hb⟩
        have H5 := Lib.hid (H4.out.trans (hb.mono H4.out.size))
        clear hb
        go_wp2
        go_ret
        exact ⟨rfl, H5.out⟩
end Go.Proofs.Ytaifgehmlfjljaa
