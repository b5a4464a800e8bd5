/-
  The document's DivMod, of two numbers of 64 bits.
-/
import Derived.Test.YtojgpoochclnfaaRDivS
import Derived.Sort.AtCall
namespace Go.Proofs.Ytojgpoochclnfaa
open Go.RowKit

theorem rOf_i (i : Int) (z : Nat) (w : World) (hi : i = (z : Int)) (hz : z < 18446744073709551616) :
    Calls Try.prog 33 #[.int .u64 i] w fun e w' => ∃ A2 c2, e = .returned (.slice A2 (lim z).length c2) ∧ Own w' w.heap.size A2 c2 (lim z).length (lim z) ∧ Below w.heap.size w w' := by
  subst hi
  exact rOf_any z w hz

set_option maxHeartbeats 1600000 in
theorem rDivMod_word (A B : Option Addr) (n m c d x y : Nat) (a b : List Nat) (w : World) (hn : n ≤ 100000) (hm : m ≤ 100000) (hcn : n ≤ c) (hdm : m ≤ d) (ha : Row w 0 A n a) (hb : Row w 0 B m b) (hx : val a = x) (hy : val b = y) (h0 : 0 < y) (hxl : (lim x).length ≤ 2) (hyl : (lim y).length ≤ 2) :
    Calls Try.prog 22 #[.slice A n c, .slice B m d] w fun e w' => ∃ X2 c2 Y2 d2, e = .returned (.tuple #[.slice X2 (lim (x / y)).length c2, .slice Y2 (lim (x % y)).length d2, .bool true]) ∧ Own w' w.heap.size X2 c2 (lim (x / y)).length (lim (x / y)) ∧ Own w' w.heap.size Y2 d2 (lim (x % y)).length (lim (x % y)) ∧ Below w.heap.size w w' := by
  subst hx hy
  have hxw := val_of_len2 hxl
  have hyw := val_of_len2 hyl
  have hbl : (((lim (val b)).length : Int) == 0) = false := by rw [beq_eq_false_iff_ne]; have := len_pos' h0; omega
  have HTA := Lib.hid (fun (w' : World) (h : Row w' 0 A n a) => rTo_yes A n c a w' (by omega) hcn h hxl)
  have HTB := Lib.hid (fun (w' : World) (h : Row w' 0 B m b) => rTo_yes B m d b w' (by omega) hdm h hyl)
  have hq : val a / val b < 18446744073709551616 := Nat.lt_of_le_of_lt (Nat.div_le_self _ _) hxw
  have hr : val a % val b < 18446744073709551616 := Nat.lt_of_le_of_lt (Nat.mod_le _ _) hxw
  have HQ := Lib.hid hq
  have HR := Lib.hid hr
  have hbn : ¬ (val b : Int) = 0 := by omega
  have EQ : Hid (IntKind.u64.wrap ((val a : Int) / (val b : Int)) = ((val a / val b : Nat) : Int)) := by
    show _ = _
    exact IntWalk.u64_in _ ⟨Int.natCast_nonneg (val a / val b), by have e : (val a : Int) / (val b : Int) = ((val a / val b : Nat) : Int) := rfl; omega⟩
  have EQ2 : Hid ((val a : Int) / (val b : Int) = ((val a / val b : Nat) : Int)) := rfl
  have ER2 : Hid ((val a : Int) % (val b : Int) = ((val a % val b : Nat) : Int)) := rfl
  have ER : Hid ((val a : Int).tmod (val b : Int) = ((val a % val b : Nat) : Int)) := by
    show _ = _
    rw [Int.tmod_eq_emod_of_nonneg (by omega), ← Int.natCast_emod]
  clear hxl hyl hq hr h0 hxw hyw
  go_enter Try.func22, Try.ntmps22
  go_wp2_with fail
  refine (rTrim_any B m d b _ (by omega) hdm hb).mono ?_
  rintro e w1 ⟨X, cx, rfl, ho, hb1⟩
  replace ha := ha.below hb1
  replace hb := hb.below hb1
  have HW1 := Lib.hid hb1
  clear ho hb1
  go_wp2_with fail
  refine (HTA.out _ ha).mono ?_
  rintro e w2 ⟨rfl, hb2⟩
  replace hb := hb.below hb2
  replace ha := ha.below hb2
  have HW2 := Lib.hid (HW1.out.trans (hb2.mono HW1.out.size))
  clear hb2 HW1
  go_wp2_with fail
  refine (HTB.out _ hb).mono ?_
  rintro e w3 ⟨rfl, hb3⟩
  have HW3 := Lib.hid (HW2.out.trans (hb3.mono HW2.out.size))
  clear hb3 HW2 hb ha HTA HTB
  go_upto_region 6 with fail
  have HW4 := Lib.hid (HW3.out.trans (below_drewN' _ _ 1))
  clear HW3
  go_region_with (first
    | (go_at_call_has 33 (Value.int .u64 (IntKind.u64.wrap ((val a : Int) / (val b : Int))))
       refine (rOf_i _ (val a / val b) _ EQ.out HQ.out).mono ?_
       rintro e w5 ⟨X5, c5, rfl, ho5, hb5⟩)
    | (go_at_call_has 33 (Value.int .u64 ((val a : Int) / (val b : Int)))
       refine (rOf_i _ (val a / val b) _ EQ2.out HQ.out).mono ?_
       rintro e w5 ⟨X5, c5, rfl, ho5, hb5⟩)
    | (go_at_call_has 33 (Value.int .u64 ((val a : Int) % (val b : Int)))
       refine (rOf_i _ (val a % val b) _ ER2.out HR.out).mono ?_
       rintro e w6 ⟨X6, c6, rfl, ho6, hb6⟩)
    | (go_at_call_has 33 (Value.int .u64 ((val a : Int).tmod (val b : Int)))
       refine (rOf_i _ (val a % val b) _ ER.out HR.out).mono ?_
       rintro e w6 ⟨X6, c6, rfl, ho6, hb6⟩))
  all_goals (go_wp2; go_ret3)
  all_goals first
    | (have HW5 := HW4.out.trans (hb5.mono HW4.out.size)
       exact ⟨X5, c5, X6, c6, rfl, (ho5.lower HW4.out.size).below hb6, ho6.lower HW5.size, HW5.trans (hb6.mono HW5.size)⟩)
    | (have HW6 := HW4.out.trans (hb6.mono HW4.out.size)
       exact ⟨X5, c5, X6, c6, rfl, ho5.lower HW6.size, (ho6.lower HW4.out.size).below hb5, HW6.trans (hb5.mono HW6.size)⟩)
end Go.Proofs.Ytojgpoochclnfaa
