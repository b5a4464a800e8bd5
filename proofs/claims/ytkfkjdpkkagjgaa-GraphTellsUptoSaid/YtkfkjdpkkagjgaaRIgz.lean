/-
  The document's Is of sums, whatever comes in.
-/
import Derived.Test.YtkfkjdpkkagjgaaRIg
namespace Go.Proofs.Ytkfkjdpkkagjgaa
set_option maxRecDepth 20000
open Go.RowKit

set_option maxHeartbeats 3200000 in
theorem rIsK_c (va : Cv) (N : Int) (la : List Tv) (L : List (Int × Rat)) (k : Rat) (w : World) (hN : 0 ≤ N ∧ N ≤ 9223372036854775807 ∨ N < 0 ∧ -9223372036854775808 ≤ N) (hnc : va.n ≤ va.c) (ha2 : Tms w 0 va.A va.n la) (ha3 : Rds w 19000000000 la L) (ha4 : Rw w va.K k 19000000000) (hn : va.n ≤ 1000) (r : Bool) (hr : r = true ↔ IsS w va la N) :
    Calls Try.prog 10 #[.agg #[.int .i64 va.s, .slice va.A va.n va.c, .bool va.K.s, .slice va.K.A va.K.n va.K.c, .slice va.K.B va.K.m va.K.d], .int .i64 N] w fun e w' => e = .returned (.bool r) ∧ Below w.heap.size w w' := by
  have NO : ¬ IsS w va la N → r = false := fun h => by
    cases hrr : r with
    | false => rfl
    | true => exact absurd (hr.1 hrr) h
  by_cases s0 : 0 ≤ va.s
  · by_cases s4 : va.s ≤ 4
    · by_cases hK : Nrm w va.K
      · exact rIsK_yes va N la L k w hN hnc ha2 ha3 ha4 hn s0 s4 hK r (hr.trans ⟨fun h => h.2.2, fun h => ⟨⟨s0, s4⟩, hK, h⟩⟩)
      · have NO1 := Lib.hid (NO (fun h => hK h.2.1))
        have HK := Lib.hid hK
        have s0' : ¬ va.s < 0 := by omega
        have s4' : ¬ 4 < va.s := by omega
        have HA := Lib.hid ha4
        clear hr NO ha2 ha3 ha4 hK
        go_enter Try.func10, Try.ntmps10
        go_wp2_with fail
        generalize hW : w.alloc (.cells #[.int .i64 va.s, .slice va.A va.n va.c, .bool va.K.s, .slice va.K.A va.K.n va.K.c, .slice va.K.B va.K.m va.K.d] 28) = W
        obtain ⟨ka, HW, hsW⟩ := openK1 w va W hW
        clear hW
        refine (rIs_v va.K k false _ (HA.out.below HW) ⟨fun h => (by cases h), fun h => absurd ((Nrm.iff HA.out HW).2 h) HK.out⟩).mono ?_
        rintro e w1 ⟨rfl, hb1'⟩
        have HB1 := Lib.hid (HW.trans (hb1'.mono (by omega)))
        clear hb1' HW ka
        go_wp2
        go_ret
        exact ⟨by rw [NO1.out]; rfl, HB1.out⟩
    · have NO1 := Lib.hid (NO (fun h => s4 h.1.2))
      have s4' : 4 < va.s := by omega
      have HB1 := Lib.hid ((Below.refl w.heap.size w).alloc (Nat.le_refl _) (.cells #[.int .i64 va.s, .slice va.A va.n va.c, .bool va.K.s, .slice va.K.A va.K.n va.K.c, .slice va.K.B va.K.m va.K.d] 28))
      have s0' : ¬ va.s < 0 := by omega
      clear hr NO ha2 ha3 ha4
      go_enter Try.func10, Try.ntmps10
      go_wp2
      go_ret
      exact ⟨by rw [NO1.out]; rfl, HB1.out⟩
  · have NO1 := Lib.hid (NO (fun h => s0 h.1.1))
    have s0' : va.s < 0 := by omega
    have HB1 := Lib.hid ((Below.refl w.heap.size w).alloc (Nat.le_refl _) (.cells #[.int .i64 va.s, .slice va.A va.n va.c, .bool va.K.s, .slice va.K.A va.K.n va.K.c, .slice va.K.B va.K.m va.K.d] 28))
    clear hr NO ha2 ha3 ha4
    go_enter Try.func10, Try.ntmps10
    go_wp2
    go_ret
    exact ⟨by rw [NO1.out]; rfl, HB1.out⟩
end Go.Proofs.Ytkfkjdpkkagjgaa
