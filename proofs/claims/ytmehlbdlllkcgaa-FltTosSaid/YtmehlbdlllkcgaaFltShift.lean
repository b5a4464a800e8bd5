/-
  The law's own 'shifted': 2 to the power of 32 times n, as limbs.
-/
import Derived.Test.YtmehlbdlllkcgaaFltQ
namespace Go.Proofs.Ytmehlbdlllkcgaa
set_option maxRecDepth 20000
open Go.RowKit

theorem val_noughts (n : Nat) (l : List Nat) : val (List.replicate n 0 ++ l) = 4294967296 ^ n * val l := by
  induction n with
  | zero => simp
  | succ n ih =>
    rw [List.replicate_succ, List.cons_append, val, ih, Nat.pow_succ]
    generalize 4294967296 ^ n = P
    generalize val l = V
    rw [Nat.zero_add, Nat.mul_assoc, Nat.mul_left_comm]

set_option maxHeartbeats 1000000 in
theorem shifted_c (n : Nat) (i : Int) (hi : i = (n : Int)) (hn : n ≤ 100) (w : World) :
    Calls Try.prog 38 #[.int .i64 i] w fun e w' => ∃ A2 c2 l, e = .returned (.slice A2 (n + 1) c2) ∧ Row w' 0 A2 (n + 1) l ∧ val l = 4294967296 ^ n ∧ n + 1 ≤ c2 ∧ Below w.heap.size w w' := by
  subst hi
  obtain ⟨i0, hi, hz0, hz1, hz2⟩ := info_parts Try.info25
  have hv : Hid (val (List.replicate n 0 ++ [1]) = 4294967296 ^ n) := by
    show _ = _
    rw [val_noughts]; simp [val]
  go_enter Try.func38, Try.ntmps38
  go_wp2_with (at_make; refine wpList_make_full _ rfl _ _ _ rfl w.heap.size 25 i0 (.int .u32 0) 1 Try.underlying22 hi hz0 hz1 .i64 .i64 _ _ n rfl rfl ?c4 ?c5 ?c1 ?c2 ?c3 ?_)
  case c4 => omega
  case c5 => omega
  case c1 => rw [hz2]; omega
  case c2 => unfold maxLen; omega
  case c3 => exact Nat.le_refl _
  intro w1 ho hg
  have hs1 := (below_of_grown hg).size
  have HO := Lib.hid (Own.made ho)
  have HB := Lib.hid (below_of_grown hg)
  clear ho hg
  go_wp2_with (at_builtin; refine wpl_append rfl _ _ rfl rfl rfl (HO.out.alloc _) (Row.one (x := 1) (lo := 0) ?c1 ?c2 ?c3) ?c4 ?c5 ?_)
  case c1 => rfl
  case c2 => omega
  case c3 => omega
  case c4 => omega
  case c5 => simp; omega
  intro A2 c2 w3 ho3 hg3
  have HO3 := Lib.hid ho3
  have HB3 := Lib.hid (below_app HO.out hs1 HB.out (below_alloc w1 _) hg3)
  clear ho3 hg3 HO HB
  go_wp2
  go_ret
  exact ⟨A2, c2, _, rfl, HO3.out.row.lower (Nat.zero_le _), hv.out, HO3.out.capLe, HB3.out⟩
end Go.Proofs.Ytmehlbdlllkcgaa
