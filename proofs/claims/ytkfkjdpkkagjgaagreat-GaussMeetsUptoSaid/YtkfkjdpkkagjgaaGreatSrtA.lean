/-
  What sums are compared by; a range of sums swapped with another one.
-/
import Derived.Test.YtkfkjdpkkagjgaaGreatCRow
import Derived.Deep.RegionHeld3
import Derived.Sort.AtCall
import Derived.BigQuiet
namespace Go.Proofs.YtkfkjdpkkagjgaaGreat
set_option maxRecDepth 20000
open Go.RowKit
theorem isNaN_c (x : Int) (w : World) : Calls Tryz.prog 81 #[.int .i64 x] w fun e w' => e = .returned (.bool false) ∧ Below w.heap.size w w' := by
 have h : (x != x) = false := by simp
 go_enter Tryz.func81, Tryz.ntmps81
 go_wp2
 go_ret
 exact ⟨by simp, Below.refl _ _⟩
def CmpPost (w : World) (e : Ending) (w' : World) : Prop := ∃ k : Int, e = .returned (.int .i64 k) ∧ -1 ≤ k ∧ k ≤ 1 ∧ Below w.heap.size w w'
set_option maxHeartbeats 1600000 in
theorem Compare_c (x y : Int) (w : World) : Calls Tryz.prog 58 #[.int .i64 x, .int .i64 y] w (CmpPost w) := by
 go_enter Tryz.func58, Tryz.ntmps58
 go_wp2_with fail
 refine (isNaN_c x _).mono ?_
 rintro e w1 ⟨rfl, hb⟩
 go_wp2_with fail
 refine (isNaN_c y _).mono ?_
 rintro e w2 ⟨rfl, hb2⟩
 have HB := Lib.hid (hb.trans (hb2.mono hb.size))
 clear hb hb2
 rcases Int.lt_trichotomy x y with h | h | h
 ·
  have h2 : ¬ y < x := by omega
  go_wp2
  go_ret
  exact ⟨-1, rfl, by omega, by omega, HB.out⟩
 ·
  have h2 : ¬ x < y := by omega
  have h3 : ¬ y < x := by omega
  clear h
  go_wp2
  go_ret
  exact ⟨0, rfl, by omega, by omega, HB.out⟩
 ·
  have h2 : ¬ x < y := by omega
  go_wp2
  go_ret
  exact ⟨1, rfl, by omega, by omega, HB.out⟩
set_option maxHeartbeats 1600000 in
theorem lit_c (u v : Cv) (w : World) : Calls Tryz.prog 57 #[.agg #[.int .i64 u.s, .slice u.A u.n u.c, .bool u.K.s, .slice u.K.A u.K.n u.K.c, .slice u.K.B u.K.m u.K.d], .agg #[.int .i64 v.s, .slice v.A v.n v.c, .bool v.K.s, .slice v.K.A v.K.n v.K.c, .slice v.K.B v.K.m v.K.d]] w (CmpPost w) := by
 go_enter Tryz.func57, Tryz.ntmps57
 go_wp2_with fail
 have HB : Below w.heap.size w ((w.alloc (.cells #[.int .i64 u.s, .slice u.A u.n u.c, .bool u.K.s, .slice u.K.A u.K.n u.K.c, .slice u.K.B u.K.m u.K.d] 28)).alloc (.cells #[.int .i64 v.s, .slice v.A v.n v.c, .bool v.K.s, .slice v.K.A v.K.n v.K.c, .slice v.K.B v.K.m v.K.d] 28)) := ((Below.refl _ _).alloc (Nat.le_refl _) _).alloc (by simp) _
 refine (Compare_c _ _ _).mono ?_
 rintro e w1 ⟨k, rfl, h1, h2, hb⟩
 have HB2 := Lib.hid (HB.trans (hb.mono HB.size))
 clear hb HB
 go_wp2
 go_ret
 exact ⟨k, rfl, h1, h2, HB2.out⟩
end Go.Proofs.YtkfkjdpkkagjgaaGreat
