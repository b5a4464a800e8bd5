/-
  The greatest common divisor: the program's way.
-/
import Derived.Test.YtffnjdfmaebmhaaGreatDoorDivMod
import Derived.Test.YtffnjdfmaebmhaaGreatDoorLawKit
import Derived.Test.YtffnjdfmaebmhaaGreatDoorTo
import Derived.Deep.LoopGhost
namespace Go.Proofs.YtffnjdfmaebmhaaGreatDoor
set_option maxRecDepth 20000
open Go.RowKit

theorem gcd_step (x y : Nat) : Nat.gcd y (x % y) = Nat.gcd x y := by
  rw [Nat.gcd_comm y, ← Nat.gcd_rec, Nat.gcd_comm]

set_option maxHeartbeats 800000 in
theorem gcdWord_any (x y : Nat) (w : World) (hx : x < 18446744073709551616) (hy : y < 18446744073709551616) :
    Calls Tryz.prog 87 #[.int .u64 (x : Int), .int .u64 (y : Int)] w fun e w' => e = .returned (.int .u64 (Nat.gcd x y : Nat)) ∧ ∃ q, w' = w.drewN q := by
  go_enter Tryz.func87, Tryz.ntmps87
  go_wp2
  go_loopw [0, 1] (fun xv yv wr => ∃ u v q : Nat, u < 18446744073709551616 ∧ v < 18446744073709551616 ∧ xv = .int .u64 u ∧ yv = .int .u64 v ∧ wr = w.drewN q ∧ Hid (Nat.gcd u v = Nat.gcd x y)) (fun _ yv _ => (intOf yv).toNat)
  case atStart => exact ⟨x, y, 0, hx, hy, rfl, rfl, rfl, rfl⟩
  case round =>
    obtain ⟨u, v, q, hu, hv, rfl, rfl, rfl, HG⟩ := hrel
    by_cases h0 : v = 0
    · subst h0
      have E : Hid (u = Nat.gcd x y) := by show _ = _; rw [← HG.out, Nat.gcd_zero_right]
      clear HG
      go_wp2
      go_ret
      exact ⟨by rw [← E.out]; rfl, q, rfl⟩
    · have hb : ((v : Int) != 0) = true := by rw [bne_iff_ne]; omega
      have hvn : ¬ (v : Int) = 0 := by omega
      have HG2 : Hid (Nat.gcd v (u % v) = Nat.gcd x y) := (gcd_step u v).trans HG.out
      have hlt : u % v < v := Nat.mod_lt _ (by omega)
      have HC : Hid ((u : Int) % (v : Int) = ((u % v : Nat) : Int)) := rfl
      have hlt2 : u % v < 18446744073709551616 := by omega
      have HL := Lib.hid hlt
      clear HG h0 hlt
      go_wp2
      go_quiet (fail)
      go_wp2
      go_roundw
      case rel => exact ⟨v, u % v, _, hv, hlt2, rfl, rfl, by simp only [World.drewN_drewN]; rfl, HG2⟩
      case measure =>
        have := HL.out
        simp [intOf]
        omega

/-- What the loop of Gcd keeps: two rows, of u and of v, not above it; their greatest common divisor is that of x and y. -/
structure GcdAt (w wr : World) (x y u v : Nat) (X Y : Option Addr) (cx cy : Nat) : Prop where
  row1 : Row wr 0 X (lim u).length (lim u)
  row2 : Row wr 0 Y (lim v).length (lim v)
  gcd : Nat.gcd u v = Nat.gcd x y
  le : v ≤ u
  below : Below w.heap.size w wr

set_option maxHeartbeats 1000000 in
theorem Gcd_any (A B : Option Addr) (n m c d x y : Nat) (a b : List Nat) (w : World) (hn : n ≤ 10000) (hm : m ≤ 10000) (hcn : n ≤ c) (hdm : m ≤ d) (ha : Row w 0 A n a) (hb : Row w 0 B m b) (hx : val a = x) (hy : val b = y) :
    Calls Tryz.prog 58 #[.slice A n c, .slice B m d] w fun e w' => ∃ X2 c2, e = .returned (.slice X2 (lim (Nat.gcd x y)).length c2) ∧ (lim (Nat.gcd x y)).length ≤ c2 ∧ Row w' 0 X2 (lim (Nat.gcd x y)).length (lim (Nat.gcd x y)) ∧ Below w.heap.size w w' := by
  have hlx : (lim x).length ≤ 10000 := by rw [← hx]; have := lim_len_le ha.l32; have := ha.len; omega
  have hly : (lim y).length ≤ 10000 := by rw [← hy]; have := lim_len_le hb.l32; have := hb.len; omega
  have HX := Lib.hid hx
  have HY := Lib.hid hy
  clear hx hy
  go_enter Tryz.func58, Tryz.ntmps58
  go_wp2_with fail
  refine (Trim_v x A n c a _ HX.out (by omega) hcn ha).mono ?_
  rintro e w1 ⟨g1, rfl, ho, hb1⟩
  have hr1 := ho.row.lower (Nat.zero_le _)
  replace hb := hb.below hb1
  clear ho ha
  go_wp2_with fail
  refine (Trim_v y B m d b _ HY.out (by omega) hdm hb).mono ?_
  rintro e w2 ⟨g2, rfl, ho, hb2⟩
  have hr2 := ho.row.lower (Nat.zero_le _)
  replace hr1 := hr1.below hb2
  have HB2 := Lib.hid (hb1.trans (hb2.mono hb1.size))
  clear ho hb hb1 hb2
  have hc0 : ∃ s : Int, (s = -1 ∧ x < y ∨ 0 ≤ s ∧ s ≤ 1 ∧ y ≤ x) ∧ Calls Tryz.prog 57 #[.slice (some ⟨g1, 0, none⟩) (lim x).length (lim x).length, .slice (some ⟨g2, 0, none⟩) (lim y).length (lim y).length] w2 fun e w' => e = .returned (.int .i64 s) ∧ ∃ q, w' = w2.drewN q := by
    have h := Cmp_any _ _ (lim x).length (lim y).length (lim x).length (lim y).length (lim x) (lim y) w2 (by omega) (by omega) (Nat.le_refl _) (Nat.le_refl _) hr1 hr2
    rw [val_lim, val_lim] at h
    refine ⟨_, ?_, h⟩
    by_cases hlt : x < y
    · exact .inl ⟨cmpI_lt hlt, hlt⟩
    · refine .inr ?_
      unfold cmpI
      rw [if_neg hlt]
      split <;> omega
  obtain ⟨s, hs, hc⟩ := hc0
  have HC := Lib.hid hc
  clear hc
  go_wp2_with fail
  refine HC.out.mono ?_
  rintro e w3 ⟨rfl, q3, hw3⟩
  have HW3 := Lib.hid hw3
  clear hw3
  go_upto_if 19 with (fail)
  go_cut [0, 1] (fun v0 v1 wx => ∃ (X Y : Option Addr) (u v : Nat) (cx cy : Nat), v0 = .slice X (lim u).length cx ∧ v1 = .slice Y (lim v).length cy ∧ (lim u).length ≤ cx ∧ (lim v).length ≤ cy ∧ (lim u).length ≤ 10000 ∧ (lim v).length ≤ 10000 ∧ Hid (GcdAt w wx x y u v X Y cx cy))
  case first =>
    have hb3 : Below w2.heap.size w2 w3 := by rw [HW3.out]; exact below_drewN' _ _ _
    have r1 := hr1.below hb3
    have r2 := hr2.below hb3
    have HB3 := Lib.hid (HB2.out.trans (hb3.mono HB2.out.size))
    clear hb3 hr1 hr2
    rcases hs with ⟨rfl, hlt⟩ | ⟨hs0, hs1, hle⟩
    · have HG : Hid (GcdAt w w3 x y y x (some ⟨g2, 0, none⟩) (some ⟨g1, 0, none⟩) (lim y).length (lim x).length) := ⟨r2, r1, Nat.gcd_comm _ _, Nat.le_of_lt hlt, HB3.out⟩
      clear hlt r1 r2
      go_wp2
      go_meet
      exact ⟨_, _, y, x, _, _, rfl, rfl, Nat.le_refl _, Nat.le_refl _, hly, hlx, HG⟩
    · have HG : Hid (GcdAt w w3 x y x y (some ⟨g1, 0, none⟩) (some ⟨g2, 0, none⟩) (lim x).length (lim y).length) := ⟨r1, r2, rfl, hle, HB3.out⟩
      clear hle r1 r2
      go_wp2
      go_meet
      exact ⟨_, _, x, y, _, _, rfl, rfl, Nat.le_refl _, Nat.le_refl _, hlx, hly, HG⟩
  case rest =>
    clear hs HC hr1 hr2 HB2
    obtain ⟨X, Y, u, v, cx, cy, rfl, rfl, hcx, hcy, hlu, hlv, HG⟩ := hcut
    go_wp2
    go_loopg [0, 1, 5, 6, 7] v (fun g s0 s1 _ _ _ wx => ∃ (X Y : Option Addr) (u v cx cy : Nat), v = g ∧ s0 = .slice X (lim u).length cx ∧ s1 = .slice Y (lim v).length cy ∧ (lim u).length ≤ cx ∧ (lim v).length ≤ cy ∧ (lim u).length ≤ 10000 ∧ (lim v).length ≤ 10000 ∧ Hid (GcdAt w wx x y u v X Y cx cy))
    case atStart => exact ⟨X, Y, u, v, cx, cy, rfl, rfl, rfl, hcx, hcy, hlu, hlv, HG⟩
    case round =>
      obtain ⟨X, Y, u, v, cx, cy, rfl, rfl, rfl, hcx, hcy, hlu, hlv, HG⟩ := hrel
      have r1 := HG.out.row1
      have r2 := HG.out.row2
      have hbw := HG.out.below
      by_cases hv0 : (lim v).length = 0
      · have hvz : v = 0 := by
          have := val_lim v
          rw [List.eq_nil_of_length_eq_zero hv0] at this
          simpa [val] using this.symm
        have E : Hid (u = Nat.gcd x y) := by show _ = _; rw [← HG.out.gcd, hvz, Nat.gcd_zero_right]
        have hvb : (((lim v).length : Int) == 0) = true := by rw [beq_iff_eq]; omega
        have hv1 : (lim v).length ≤ 0 := by omega
        clear HG hv0 hvz r2
        by_cases hu2 : 2 < (lim u).length
        all_goals
          go_wp2
          go_ret
          have r1' := r1
          rw [E.out] at r1' hcx
          exact ⟨X, cx, by rw [← E.out]; rfl, hcx, r1', hbw⟩
      · have hvp : 0 < v := by
          rcases Nat.eq_zero_or_pos v with h0 | h0
          · subst h0; rw [lim_zero] at hv0; simp at hv0
          · exact h0
        have hvb : (((lim v).length : Int) == 0) = false := by rw [beq_eq_false_iff_ne]; omega
        have hv1 : 0 < (lim v).length := by omega
        by_cases hu2 : 2 < (lim u).length
        · have HD := Lib.hid (DivMod_pos X Y (lim u).length (lim v).length cx cy u v (lim u) (lim v) wr (by omega) (by omega) hcx hcy r1 r2 (val_lim _) (val_lim _) hvp)
          have hrl : (lim (u % v)).length ≤ 10000 := by
            have := lim_len_mono (show u % v ≤ v from Nat.le_of_lt (Nat.mod_lt _ hvp))
            omega
          have hml : u % v < v := Nat.mod_lt _ hvp
          have HM := Lib.hid hml
          have STEP : Hid (∀ (w4 : World) (Z : Option Addr) (cz : Nat), Row w4 0 Z (lim (u % v)).length (lim (u % v)) → Below wr.heap.size wr w4 → GcdAt w w4 x y v (u % v) Y Z cy cz) :=
            fun w4 Z cz hz hb => ⟨r2.below hb, hz, (gcd_step u v).trans HG.out.gcd, Nat.le_of_lt hml, hbw.trans (hb.mono hbw.size)⟩
          clear HG hv0 hvp r1 r2 hml
          go_wp2_with fail
          refine HD.out.mono ?_
          rintro e w4 ⟨X2, c2, Z, cz, rfl, hq, hrr, hb4⟩
          have hcz := hrr.capLe
          have HS := Lib.hid (STEP.out w4 Z cz (hrr.row.lower (Nat.zero_le _)) hb4)
          clear hq hrr hb4 HD STEP
          go_wp2
          go_roundg (u % v)
          case measure => exact HM.out
          case rel => exact ⟨Y, Z, v, u % v, cy, cz, rfl, rfl, rfl, hcy, hcz, hlv, hrl, HS⟩
        · have hlv2 : (lim v).length ≤ 2 := by have := lim_len_mono HG.out.le; omega
          have hT1 := Lib.hid (fun (w : World) (h : Row w 0 X (lim u).length (lim u)) => To_yes X (lim u).length cx (lim u) w (by omega) hcx h (by rw [val_lim]; omega))
          have hT2 := Lib.hid (fun (w : World) (h : Row w 0 Y (lim v).length (lim v)) => To_yes Y (lim v).length cy (lim v) w (by omega) hcy h (by rw [val_lim]; omega))
          have hub := val_of_len2 (a := lim u) (by rw [val_lim]; omega)
          have hvb2 := val_of_len2 (a := lim v) (by rw [val_lim]; omega)
          rw [val_lim] at hub hvb2
          have E : Hid (Nat.gcd u v = Nat.gcd x y) := HG.out.gcd
          have hgb : Nat.gcd u v < 18446744073709551616 := Nat.lt_of_le_of_lt (Nat.gcd_le_right _ hvp) hvb2
          have HW := Lib.hid (fun (w : World) => gcdWord_any u v w hub hvb2)
          have HO := Lib.hid (fun (w : World) => Of_any (Nat.gcd u v) w hgb)
          have R1 := Lib.hid r1
          have R2 := Lib.hid r2
          have HBW := Lib.hid hbw
          clear HG hv0 hvp hub hvb2 hgb r1 r2 hbw
          go_wp2_with fail
          refine (hT1.out _ R1.out).mono ?_
          rintro e w' ⟨rfl, rfl⟩
          rw [val_lim]
          go_wp2_with fail
          refine (hT2.out _ R2.out).mono ?_
          rintro e w' ⟨rfl, rfl⟩
          rw [val_lim]
          go_wp2_with fail
          refine (HW.out _).mono ?_
          rintro e w4 ⟨rfl, q4, hw4⟩
          have HB4 : Hid (Below w.heap.size w w4) := HBW.out.trans (by rw [hw4]; exact below_drewN' _ _ _)
          clear hw4
          go_wp2_with fail
          refine (HO.out _).mono ?_
          rintro e w5 ⟨Z, cz, rfl, ho5, hb5⟩
          have hz5 := ho5.row.lower (Nat.zero_le _)
          have hc5 := ho5.capLe
          have HZ := Lib.hid hz5
          have HB5 := Lib.hid (HB4.out.trans (hb5.mono HB4.out.size))
          clear ho5 hb5 hz5
          go_wp2
          go_ret
          have hz6 := HZ.out
          rw [E.out] at hz6 hc5
          exact ⟨Z, cz, by rw [← E.out]; rfl, hc5, hz6, HB5.out⟩
end Go.Proofs.YtffnjdfmaebmhaaGreatDoor
