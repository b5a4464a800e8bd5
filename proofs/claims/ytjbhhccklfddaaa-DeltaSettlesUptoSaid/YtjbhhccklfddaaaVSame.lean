/-
  Two rows of ints compared, by the document.
-/
import Derived.Test.YtjbhhccklfddaaaVDlG
namespace Go.Proofs.Ytjbhhccklfddaaa
set_option maxRecDepth 20000
open Go.RowKit
set_option maxHeartbeats 3200000 in
theorem same_c (A B : Option Addr) (n ca cb : Nat) (l k : List Int) (w : World) (h : ZRow w A n l) (g : ZRow w B n k) (hn : n ≤ 2000000) :
  Calls Try.prog 31 #[.slice A n ca, .slice B n cb] w fun e w' => BPost (l = k) e ∧ Below w.heap.size w w' := by
 have n0 : (0 : Int) ≤ (n : Int) := by omega
 have n9 : (n : Int) ≤ 2000000 := by omega
 have H := Lib.hid (And.intro h g)
 have hl := Lib.hid h.len
 have hk := Lib.hid g.len
 clear h g
 have HR0 : Hid ((∀ j, j < 0 → zt l j = zt k j) ∧ Below w.heap.size w w) := ⟨fun j hj => absurd hj (Nat.not_lt_zero _), Below.refl _ _⟩
 go_enter Try.func31, Try.ntmps31
 go_wp2
 go_loopw [5] (fun iv wr => ∃ i : Nat, i ≤ n ∧ iv = .int .i64 i ∧ Hid ((∀ j, j < i → zt l j = zt k j) ∧ Below w.heap.size w wr)) (fun iv _ => n - (intOf iv).toNat)
 case atStart => exact ⟨0, Nat.zero_le _, rfl, HR0⟩
 case round =>
  clear HR0
  obtain ⟨i, hi, rfl, HR⟩ := hrel
  have i0 : (0 : Int) ≤ (i : Int) := by omega
  by_cases hlt : i < n
  ·
   have i1 : (i : Int) < (n : Int) := by omega
   obtain ⟨ba, oa, ea, _, ha⟩ := (H.out.1.below HR.out.2).mem (by omega)
   obtain ⟨bb, ob, eb, _, hb⟩ := (H.out.2.below HR.out.2).mem (by omega)
   have c0 := ha i hlt
   have c1 := hb i hlt
   clear ha hb
   subst ea eb
   obtain ⟨x, hx⟩ : ∃ x, x = zt l i := ⟨_, rfl⟩
   obtain ⟨y, hy⟩ : ∃ y, y = zt k i := ⟨_, rfl⟩
   rw [← hx] at c0
   rw [← hy] at c1
   have HXY := Lib.hid (And.intro hx hy)
   clear hx hy
   go_wp2
   go_region_held3 (fun w' => w'.cell? ⟨ba, oa + i, none⟩ = some (.int .i64 x) ∧ w'.cell? ⟨bb, ob + i, none⟩ = some (.int .i64 y)) (go_keep) (fail)
   by_cases hxy : x = y
   ·
    have HS1 : Hid ((∀ j, j < i + 1 → zt l j = zt k j) ∧ Below w.heap.size w wr.drew) := ⟨fun j hj => by
     by_cases e : j = i
     · rw [e, ← HXY.out.1, ← HXY.out.2, hxy]
     · exact HR.out.1 j (by omega), HR.out.2.drew⟩
    go_wp2
    go_roundw
    case rel => exact ⟨i + 1, by omega, by go_num, HS1⟩
    case measure => simp [intOf]; omega
   ·
    have HS1 : Hid (l ≠ k ∧ Below w.heap.size w wr.drew) := ⟨fun e => hxy (by rw [HXY.out.1, HXY.out.2, e]), HR.out.2.drew⟩
    go_wp2
    go_ret
    exact ⟨BPost.no HS1.out.1 rfl, HS1.out.2⟩
  ·
   have i1 : ¬ (i : Int) < (n : Int) := by omega
   have e : l = k := zt_ext (hl.out.trans hk.out.symm) fun v hv => HR.out.1 v (by have := hl.out; omega)
   have HB := Lib.hid (And.intro e HR.out.2)
   clear HR e
   go_wp2
   go_ret
   exact ⟨BPost.yes HB.out.1 rfl, HB.out.2⟩
end Go.Proofs.Ytjbhhccklfddaaa
