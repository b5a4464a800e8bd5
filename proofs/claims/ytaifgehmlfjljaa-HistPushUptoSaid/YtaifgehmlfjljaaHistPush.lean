/-
  Behind a push nothing can be done again: the walk.
-/
import Derived.Test.YtaifgehmlfjljaaHsF
namespace Go.Proofs.Ytaifgehmlfjljaa
set_option maxRecDepth 20000
open Go.RowKit

set_option maxHeartbeats 6400000 in
theorem HistPush_c (A B : Option Addr) (n c m d : Nat) (l k : List ByteArray) (s t : ByteArray) (w : World) (h : Strs w A n l) (h' : Strs w B m k) (hn : n ≤ 1200000) (hm : m ≤ 1200000) (hs : s.size ≤ 2000000) (ht : t.size ≤ 2000000) (hc : n ≤ c) :
    Calls Try.prog 5 #[.agg #[.slice A n c, .slice B m d], .string s, .string t] w fun e w' => e = .returned (.bool true) ∧ Below w.heap.size w w' := by
  have HB : Hid (Below w.heap.size w (w.alloc (.cells #[.slice A n c, .slice B m d] 24))) := below_alloc _ _
  have k0 : C2 (w.alloc (.cells #[.slice A n c, .slice B m d] 24)) w.heap.size 24 (.slice A n c) (.slice B m d) := C2.newAt _ _ _ rfl
  have HZ := Lib.hid (And.intro h.sz (And.intro h'.sz (And.intro h.len h'.len)))
  have HS := Lib.hid (And.intro (h.below HB.out) (h'.below HB.out))
  have K0 := Lib.hid k0
  clear h h' k0
  go_enter Try.func5, Try.ntmps5
  go_wp2_with fail
  generalize w.alloc (.cells #[.slice A n c, .slice B m d] 24) = W at *
  refine (long_c A B n c m d l k _ HS.out.1 HS.out.2 (by omega) (by omega)).mono ?_
  rintro e w1 ⟨⟨r, rfl⟩, hb⟩
  have H1 : Hid (Below w.heap.size w w1 ∧ Strs w1 A n l ∧ Strs w1 B m k ∧ C2 w1 w.heap.size 24 (.slice A n c) (.slice B m d)) := ⟨HB.out.trans (hb.mono HB.out.size), HS.out.1.below hb, HS.out.2.below hb, K0.out.below hb⟩
  obtain ⟨a0, a1⟩ := H1.out.2.2.2.facts
  clear hb HB HS K0
  cases r with
  | true =>
    go_wp2
    go_ret
    exact ⟨rfl, H1.out.1⟩
  | false =>
    by_cases h500 : 500 < s.size + t.size
    · have i1 : (500 : Int) < (s.size : Int) + (t.size : Int) := by omega
      go_wp2
      go_ret
      exact ⟨rfl, H1.out.1⟩
    · have i1 : ¬ (500 : Int) < (s.size : Int) + (t.size : Int) := by omega
      go_wp2_with fail
      refine (Push_c A B n c m d l s _ H1.out.2.1 (by omega) hc hs).mono ?_
      rintro e w2 ⟨A2, c2, rfl, ho, hb⟩
      have hq9 : Hid (n - gone n ≤ n ∧ (l.drop (gone n)).length = n - gone n) := ⟨Nat.sub_le _ _, by rw [List.length_drop, HZ.out.2.2.1]⟩
      have hzz : ∀ y ∈ l.drop (gone n) ++ [s], y.size ≤ 2000000 := fun y hy => by
        rcases List.mem_append.1 hy with hy | hy
        · exact HZ.out.1 y (List.mem_of_mem_drop hy)
        · simp at hy; subst hy; exact hs
      have ht2 := ho.strs hzz
      generalize n - gone n = q at *
      generalize l.drop (gone n) = L at *
      have H2 : Hid (Below w.heap.size w (w2.alloc (.cells #[.slice A2 (q + 1) c2, .slice none 0 0] 24)) ∧ C2 (w2.alloc (.cells #[.slice A2 (q + 1) c2, .slice none 0 0] 24)) w2.heap.size 24 (.slice A2 (q + 1) c2) (.slice none 0 0)
          ∧ Strs (w2.alloc (.cells #[.slice A2 (q + 1) c2, .slice none 0 0] 24)) A2 (q + 1) (L ++ [s]) ∧ q + 1 ≤ c2 ∧ L.length = q ∧ q ≤ n) :=
        ⟨(H1.out.1.trans (hb.mono H1.out.1.size)).alloc (Nat.le_trans H1.out.1.size hb.size) _, C2.newAt _ _ _ rfl, ht2.below (below_alloc _ _), ho.capLe, hq9.out.2, hq9.out.1⟩
      clear ho hb hzz hq9 ht2 a0 a1
      go_wp2_with fail
      refine (Redo_no A2 none (q + 1) c2 0 0 (L ++ [s]) [] t _ H2.out.2.2.1 (Strs.nil_ _ _) (by have := H2.out.2.2.2.2.2; omega) (by omega) rfl).mono ?_
      rintro e w3 ⟨A3, c3, B3, d3, rfl, _, _, hb⟩
      have H3 : Hid (Below w.heap.size w (w3.alloc (.cells #[.slice A3 (q + 1) c3, .slice B3 0 d3] 24)) ∧ C2 (w3.alloc (.cells #[.slice A3 (q + 1) c3, .slice B3 0 d3] 24)) w2.heap.size 24 (.slice A2 (q + 1) c2) (.slice none 0 0)
          ∧ Strs (w3.alloc (.cells #[.slice A3 (q + 1) c3, .slice B3 0 d3] 24)) A2 (q + 1) (L ++ [s])) :=
        ⟨(H2.out.1.trans (hb.mono H2.out.1.size)).alloc (Nat.le_trans H2.out.1.size hb.size) _, (H2.out.2.1.below hb).below (below_alloc _ _), (H2.out.2.2.1.below hb).below (below_alloc _ _)⟩
      obtain ⟨p0, p1⟩ := (H2.out.2.1.below hb).facts
      have l0 := (H2.out.2.1.below hb).lt
      clear hb
      go_wp2_with fail
      refine (Undo_yes A2 none q c2 0 0 (L ++ [s]) [] t s _ H3.out.2.2 (Strs.nil_ _ _) (by have := H2.out.2.2.2.2.2; omega) (by omega) ht (by rw [List.getElem?_append_right (by have := H2.out.2.2.2.2.1; omega), H2.out.2.2.2.2.1, Nat.sub_self]; rfl) H2.out.2.2.2.1).mono ?_
      rintro e w4 ⟨A4, c4, B4, d4, rfl, _, ho', hb⟩
      have H4 : Hid (Below w.heap.size w (w4.alloc (.cells #[.slice A4 q c4, .slice B4 (0 + 1) d4] 24))) := (H3.out.1.trans (hb.mono H3.out.1.size)).alloc (Nat.le_trans H3.out.1.size hb.size) _
      obtain ⟨g, rfl, hg1, hg2⟩ := ho'.form (by omega)
      have c0 := ho'.cell (j := 0) (s := t) rfl
      have hg3 : ¬ g = w4.heap.size := by omega
      have hbe : (s.toList == s.toList) = true := beq_self_eq_true _
      have hbf : (t.toList == t.toList) = true := beq_self_eq_true _
      clear ho' hb p0 p1
      go_wp2_with fail
      refine (known_c _).mono ?_
      rintro e w5 ⟨rfl, hb⟩
      have H5 := Lib.hid (H4.out.trans (hb.mono H4.out.size))
      clear hb
      go_wp2
      go_ret
      exact ⟨rfl, H5.out⟩
end Go.Proofs.Ytaifgehmlfjljaa
