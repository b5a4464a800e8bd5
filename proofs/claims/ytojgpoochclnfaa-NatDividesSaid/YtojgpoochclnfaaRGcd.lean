/-
  The document's DivMod by any number that is not 0, and its Gcd.
-/
import Derived.Test.YtojgpoochclnfaaRDivW
import Derived.Deep.LoopGhost
namespace Go.Proofs.Ytojgpoochclnfaa
open Go.RowKit

theorem rDivMod_pos (A B : Option Addr) (n m c d x y : Nat) (a b : List Nat) (w : World) (hn : n ≤ 8) (hm : m ≤ 8) (hcn : n ≤ c) (hdm : m ≤ d) (ha : Row w 0 A n a) (hb : Row w 0 B m b) (hx : val a = x) (hy : val b = y) (h0 : 0 < y) :
    Calls Try.prog 22 #[.slice A n c, .slice B m d] w fun e w' => ∃ X2 c2 Y2 d2, e = .returned (.tuple #[.slice X2 (lim (x / y)).length c2, .slice Y2 (lim (x % y)).length d2, .bool true]) ∧ Own w' w.heap.size X2 c2 (lim (x / y)).length (lim (x / y)) ∧ Own w' w.heap.size Y2 d2 (lim (x % y)).length (lim (x % y)) ∧ Below w.heap.size w w' := by
  by_cases hxl : (lim x).length ≤ 2
  · by_cases hyl : (lim y).length ≤ 2
    · exact rDivMod_word A B n m c d x y a b w (by omega) (by omega) hcn hdm ha hb hx hy h0 hxl hyl
    · exact rDivMod_long A B n m c d x y x 0 true false a b w hn hm hdm ha hb hx hy h0
        (fun w' h => by subst hx; exact rTo_yes A n c a w' (by omega) hcn h hxl)
        (fun w' h => rTo_no B m d b w' (by omega) hdm h (by rw [hy]; omega)) (.inl rfl)
  · by_cases hyl : (lim y).length ≤ 2
    · by_cases hyb : y < 4294967296
      · exact rDivMod_small A B n m c d x y a b w hn hm hcn hdm ha hb hx hy h0 (by omega) hyb
      · exact rDivMod_long A B n m c d x y 0 y false true a b w hn hm hdm ha hb hx hy h0
          (fun w' h => rTo_no A n c a w' (by omega) hcn h (by rw [hx]; omega))
          (fun w' h => by subst hy; exact rTo_yes B m d b w' (by omega) hdm h hyl)
          (.inr ⟨rfl, rfl, by rw [decide_eq_false_iff_not]; omega⟩)
    · exact rDivMod_long A B n m c d x y 0 0 false false a b w hn hm hdm ha hb hx hy h0
        (fun w' h => rTo_no A n c a w' (by omega) hcn h (by rw [hx]; omega))
        (fun w' h => rTo_no B m d b w' (by omega) hdm h (by rw [hy]; omega)) (.inl rfl)

theorem rTrim_v (x : Nat) (A : Option Addr) (n c : Nat) (l : List Nat) (w : World) (hx : val l = x) (hn : n ≤ 1000000) (hcap : n ≤ c) (hr : Row w 0 A n l) :
    Calls Try.prog 25 #[.slice A n c] w fun e w' => ∃ A2 c2, e = .returned (.slice A2 (lim x).length c2) ∧ Own w' w.heap.size A2 c2 (lim x).length (lim x) ∧ Below w.heap.size w w' := by
  subst hx; exact rTrim_any A n c l w hn hcap hr

/-- What the loop of the document's Gcd keeps: two rows, of u and of v; their greatest common divisor is that of x and y. -/
structure RGcdAt (w wr : World) (x y u v : Nat) (X Y : Option Addr) (cx cy : Nat) : Prop where
  row1 : Own wr w.heap.size X cx (lim u).length (lim u)
  row2 : Own wr w.heap.size Y cy (lim v).length (lim v)
  gcd : Nat.gcd u v = Nat.gcd x y
  below : Below w.heap.size w wr

set_option maxHeartbeats 1000000 in
theorem rGcd_any (A B : Option Addr) (n m c d x y : Nat) (a b : List Nat) (w : World) (hn : n ≤ 8) (hm : m ≤ 8) (hcn : n ≤ c) (hdm : m ≤ d) (ha : Row w 0 A n a) (hb : Row w 0 B m b) (hx : val a = x) (hy : val b = y) :
    Calls Try.prog 24 #[.slice A n c, .slice B m d] w fun e w' => ∃ X2 c2, e = .returned (.slice X2 (lim (Nat.gcd x y)).length c2) ∧ Own w' w.heap.size X2 c2 (lim (Nat.gcd x y)).length (lim (Nat.gcd x y)) ∧ Below w.heap.size w w' := by
  have hlx : (lim x).length ≤ 8 := by rw [← hx]; have := lim_len_le ha.l32; have := ha.len; omega
  have hly : (lim y).length ≤ 8 := by rw [← hy]; have := lim_len_le hb.l32; have := hb.len; omega
  have HX := Lib.hid hx
  have HY := Lib.hid hy
  clear hx hy
  go_enter Try.func24, Try.ntmps24
  go_wp2_with fail
  refine (rTrim_v x A n c a _ HX.out (by omega) hcn ha).mono ?_
  rintro e w1 ⟨X, cx, rfl, ho1, hb1⟩
  replace hb := hb.below hb1
  clear ha
  go_wp2_with fail
  refine (rTrim_v y B m d b _ HY.out (by omega) hdm hb).mono ?_
  rintro e w2 ⟨Y, cy, rfl, ho2, hb2⟩
  have HG : Hid (RGcdAt w w2 x y x y X Y cx cy) := ⟨ho1.below hb2, ho2.lower hb1.size, rfl, hb1.trans (hb2.mono hb1.size)⟩
  clear ho1 ho2 hb hb1 hb2
  go_wp2
  go_loopg [5, 6, 7, 8, 9] y (fun g s0 s1 _ _ _ wx => ∃ (X Y : Option Addr) (u v cx cy : Nat), v = g ∧ s0 = .slice X (lim u).length cx ∧ s1 = .slice Y (lim v).length cy ∧ (lim u).length ≤ 8 ∧ (lim v).length ≤ 8 ∧ Hid (RGcdAt w wx x y u v X Y cx cy))
  case atStart => exact ⟨X, Y, x, y, cx, cy, rfl, rfl, rfl, hlx, hly, HG⟩
  case round =>
    obtain ⟨X, Y, u, v, cx, cy, rfl, rfl, rfl, hlu, hlv, HG⟩ := hrel
    by_cases hv0 : (lim v).length = 0
    · have hvz : v = 0 := by
        have := val_lim v
        rw [List.eq_nil_of_length_eq_zero hv0] at this
        simpa [val] using this.symm
      have E : Hid (u = Nat.gcd x y) := by show _ = _; rw [← HG.out.gcd, hvz, Nat.gcd_zero_right]
      have hv1 : (lim v).length ≤ 0 := by omega
      have HO := Lib.hid HG.out.row1
      have HB := Lib.hid HG.out.below
      clear HG hv0 hvz
      go_wp2
      go_ret
      have HO2 := HO.out
      rw [E.out] at HO2
      exact ⟨X, cx, by rw [← E.out]; rfl, HO2, HB.out⟩
    · have hvp : 0 < v := by
        rcases Nat.eq_zero_or_pos v with h0 | h0
        · subst h0; rw [lim_zero] at hv0; simp at hv0
        · exact h0
      have hv1 : 0 < (lim v).length := by omega
      have hbw := HG.out.below
      have HD := Lib.hid (rDivMod_pos X Y (lim u).length (lim v).length cx cy u v (lim u) (lim v) wr hlu hlv HG.out.row1.capLe HG.out.row2.capLe (HG.out.row1.row.lower (Nat.zero_le _)) (HG.out.row2.row.lower (Nat.zero_le _)) (val_lim _) (val_lim _) hvp)
      have hml : u % v < v := Nat.mod_lt _ hvp
      have hrl : (lim (u % v)).length ≤ 8 := by
        have := lim_len_mono (show u % v ≤ v from Nat.le_of_lt hml)
        omega
      have HM := Lib.hid hml
      have STEP : Hid (∀ (w4 : World) (Z : Option Addr) (cz : Nat), Own w4 wr.heap.size Z cz (lim (u % v)).length (lim (u % v)) → Below wr.heap.size wr w4 → RGcdAt w w4 x y v (u % v) Y Z cy cz) :=
        fun w4 Z cz hz hb => ⟨HG.out.row2.below hb, hz.lower hbw.size, (gcd_step u v).trans HG.out.gcd, hbw.trans (hb.mono hbw.size)⟩
      clear HG hv0 hvp hml hbw
      go_wp2_with fail
      refine HD.out.mono ?_
      rintro e w4 ⟨X2, c2, Z, cz, rfl, hq, hrr, hb4⟩
      have HS := Lib.hid (STEP.out w4 Z cz hrr hb4)
      clear hq hrr hb4 HD STEP
      go_wp2
      go_roundg (u % v)
      case measure => exact HM.out
      case rel => exact ⟨Y, Z, v, u % v, cy, cz, rfl, rfl, rfl, hlv, hrl, HS⟩
end Go.Proofs.Ytojgpoochclnfaa
