/-
  The document's DivMod, by one limb.
-/
import Derived.Test.YtojgpoochclnfaaRDivL
namespace Go.Proofs.Ytojgpoochclnfaa
open Go.RowKit

set_option maxHeartbeats 800000 in
theorem rDivMod_small (A B : Option Addr) (n m c d x y : Nat) (a b : List Nat) (w : World) (hn : n ≤ 8) (hm : m ≤ 8) (hcn : n ≤ c) (hdm : m ≤ d) (ha : Row w 0 A n a) (hb : Row w 0 B m b) (hx : val a = x) (hy : val b = y) (h0 : 0 < y) (hxl : 2 < (lim x).length) (hyb : y < 4294967296) :
    Calls Try.prog 22 #[.slice A n c, .slice B m d] w fun e w' => ∃ X2 c2 Y2 d2, e = .returned (.tuple #[.slice X2 (lim (x / y)).length c2, .slice Y2 (lim (x % y)).length d2, .bool true]) ∧ Own w' w.heap.size X2 c2 (lim (x / y)).length (lim (x / y)) ∧ Own w' w.heap.size Y2 d2 (lim (x % y)).length (lim (x % y)) ∧ Below w.heap.size w w' := by
  subst hx hy
  have hyl : (lim (val b)).length ≤ 2 := lim_len_lt (k := 2) (Nat.lt_of_lt_of_le hyb (by decide))
  have hbl : (((lim (val b)).length : Int) == 0) = false := by rw [beq_eq_false_iff_ne]; have := len_pos' h0; omega
  have HA0 := Lib.hid ha
  have hrem : val a % val b < 4294967296 := Nat.lt_trans (Nat.mod_lt _ h0) hyb
  have hrem2 : val a % val b < 18446744073709551616 := by omega
  have HTA := Lib.hid (fun (w' : World) (h : Row w' 0 A n a) => rTo_no A n c a w' (by omega) hcn h hxl)
  have HTB := Lib.hid (fun (w' : World) (h : Row w' 0 B m b) => rTo_yes B m d b w' (by omega) hdm h hyl)
  have HSM := Lib.hid (fun (w' : World) (h : Row w' 0 A n a) => small_any A n c (val b) a w' (by omega) h0 hyb h)
  have hd : decide (((val b : Nat) : Int) < 4294967296) = true := by rw [decide_eq_true_iff]; omega
  have HR2 := Lib.hid hrem2
  clear hrem hxl h0 hyb hrem2
  go_enter Try.func22, Try.ntmps22
  go_wp2_with fail
  refine (rTrim_any B m d b _ (by omega) hdm hb).mono ?_
  rintro e w1 ⟨X, cx, rfl, ho, hb1⟩
  replace ha := ha.below hb1
  replace hb := hb.below hb1
  have HW1 := Lib.hid hb1
  clear ho hb1
  go_wp2_with fail
  refine (HTA.out _ ha).mono ?_
  rintro e w2 ⟨rfl, hb2⟩
  replace hb := hb.below hb2
  replace ha := ha.below hb2
  have HW2 := Lib.hid (HW1.out.trans (hb2.mono HW1.out.size))
  clear hb2 HW1
  go_wp2_with fail
  refine (HTB.out _ hb).mono ?_
  rintro e w3 ⟨rfl, hb3⟩
  replace ha := ha.below hb3
  have HW3 := Lib.hid (HW2.out.trans (hb3.mono HW2.out.size))
  clear hb3 HW2 hb HTA HTB
  go_wp2_with fail
  refine (HSM.out _ ha).mono ?_
  rintro e w4 ⟨X4, c4, rfl, ho4, hb4⟩
  have HQ4 := Lib.hid (ho4.lower HW3.out.size)
  have HW4 := Lib.hid (HW3.out.trans (hb4.mono HW3.out.size))
  clear ho4 hb4 ha HW3 HSM
  go_wp2_with fail
  refine (rOf_any (val a % val b) _ HR2.out).mono ?_
  rintro e w5 ⟨X5, c5, rfl, ho5, hb5⟩
  have HQ5 := Lib.hid (HQ4.out.below hb5)
  have HR5 := Lib.hid (ho5.lower HW4.out.size)
  have HW5 := Lib.hid (HW4.out.trans (hb5.mono HW4.out.size))
  clear ho5 hb5
  go_wp2
  go_ret3
  exact ⟨X4, c4, X5, c5, rfl, HQ5.out, HR5.out, HW5.out⟩
end Go.Proofs.Ytojgpoochclnfaa
