/-
  The document's rationals, seventh part: the other sign, differences, comparisons.
  The document's rationals, eighth part: whether two are one.
-/
import Derived.Test.YtjbhhccklfddaaaVMRr
import Derived.Test.YtjbhhccklfddaaaVMRf
namespace Go.Proofs.Ytjbhhccklfddaaa
set_option maxRecDepth 20000
open Go.RowKit
end Go.Proofs.Ytjbhhccklfddaaa
namespace Go.Proofs.Ytjbhhccklfddaaa
set_option maxRecDepth 20000
open Go.RowKit
theorem dg_ext {l l' : List Nat} (hl : l.length = l'.length) (h : ∀ j, j < l.length → dg l j = dg l' j) : l = l' := by
 apply List.ext_getElem hl
 intro i h1 h2
 have := h i h1
 rw [dg_eq, dg_eq] at this
 simpa [h1, h2] using this
set_option maxHeartbeats 800000 in
theorem rlimbs_any (A A' : Option Addr) (n n' c c' : Nat) (l l' : List Nat) (w : World) (hn : n ≤ 10000000000000) (hn' : n' ≤ 10000000000000) (hr : Row w 0 A n l) (hr' : Row w 0 A' n' l') :
  Calls Try.prog 63 #[.slice A n c, .slice A' n' c'] w fun e w' => e = .returned (.bool (decide (l = l'))) ∧ Below w.heap.size w w' := by
 by_cases hnn : n = n'
 ·
  subst hnn
  have HL := Lib.hid (show l.length = n ∧ l'.length = n from ⟨hr.len, hr'.len⟩)
  go_enter Try.func63, Try.ntmps63
  go_wp2
  go_loopw [5] (fun i wr => ∃ k q : Nat, k ≤ n ∧ i = .int .i64 k ∧ wr = w.drewN q ∧ Hid (∀ j, j < k → dg l j = dg l' j)) (fun i _ => n - (intOf i).toNat)
  case atStart => exact ⟨0, 0, Nat.zero_le _, rfl, rfl, Lib.hid (fun j hj => absurd hj (by omega))⟩
  case round =>
   obtain ⟨k, q, hk, rfl, rfl, HJ⟩ := hrel
   by_cases h0 : k < n
   ·
    obtain ⟨b, off, rfl, h1, h2, hc⟩ := hr.mem (by omega)
    obtain ⟨b', off', rfl, h1', h2', hc'⟩ := hr'.mem (by omega)
    have hc0 := hc k h0
    have hc0' := hc' k h0
    by_cases he : dg l k = dg l' k
    ·
     have HJ2 : Hid (∀ j, j < k + 1 → dg l j = dg l' j) := by
      intro j hj
      by_cases hjk : j = k
      · subst hjk; exact he
      · exact HJ.out j (by omega)
     rw [← he] at hc0'
     clear hc hc' hr hr' he
     generalize dg l k = x at *
     go_wp2
     go_quiet (fail)
     go_wp2
     go_roundw
     case rel => exact ⟨k + 1, _, by omega, by go_num, rfl, HJ2⟩
     case measure => simp [intOf]; omega
    ·
     have HE := Lib.hid (show ¬ l = l' from fun e => he (by rw [e]))
     have hne : ((dg l k : Nat) : Int) ≠ ((dg l' k : Nat) : Int) := by omega
     have hbe : (((dg l k : Nat) : Int) == ((dg l' k : Nat) : Int)) = false := beq_eq_false_iff_ne.2 hne
     have hbn : (((dg l k : Nat) : Int) != ((dg l' k : Nat) : Int)) = true := bne_iff_ne.2 hne
     clear hc hc' hr hr' he
     generalize dg l k = x at *
     generalize dg l' k = y at *
     go_wp2
     go_quiet (fail)
     go_wp2
     go_ret
     exact ⟨by rw [decide_eq_false HE.out]; rfl, (below_drewN' _ _ _).trans (below_drewN' _ _ _)⟩
   ·
    have HE : Hid (l = l') := by
     have h3 := HL.out
     exact dg_ext (by omega) (fun j hj => HJ.out j (by omega))
    clear hr hr'
    go_wp2
    go_ret
    exact ⟨by rw [decide_eq_true HE.out]; rfl, below_drewN' _ _ _⟩
 ·
  have HE := Lib.hid (show ¬ l = l' from fun e => hnn (by rw [← hr.len, ← hr'.len, e]))
  clear hr hr'
  go_enter Try.func63, Try.ntmps63
  go_wp2
  go_ret
  exact ⟨by rw [decide_eq_false HE.out]; rfl, Below.refl _ _⟩
theorem rlimbs_v (A A' : Option Addr) (n n' c c' : Nat) (l l' : List Nat) (b : Bool) (w : World) (hn : n ≤ 10000000000000) (hn' : n' ≤ 10000000000000) (hr : Row w 0 A n l) (hr' : Row w 0 A' n' l') (hb : decide (l = l') = b) :
  Calls Try.prog 63 #[.slice A n c, .slice A' n' c'] w fun e w' => e = .returned (.bool b) ∧ Below w.heap.size w w' := by
 subst hb; exact rlimbs_any A A' n n' c c' l l' w hn hn' hr hr'
end Go.Proofs.Ytjbhhccklfddaaa
