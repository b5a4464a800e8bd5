/-
  Shift to the right: the document's way.
-/
import Derived.Test.YtffnjdfmaebmhaaGreatDoorRShift
namespace Go.Proofs.YtffnjdfmaebmhaaGreatDoor
set_option maxRecDepth 20000
open Go.RowKit

theorem dn_int' {x y t : Nat} (hx : x < 4294967296) (hy : y < 4294967296) : bits BinOp.or IntKind.u64 (x : Int) ((y : Int) * 4294967296) / 2 ^ t % 4294967296 = ((dn t x y : Nat) : Int) := by
  have e : (y : Int) * 4294967296 = ((y * 4294967296 : Nat) : Int) := by omega
  rw [e, u64_or_nat _ _ (by omega) (by omega), Nat.or_comm, nat_join 32 _ x (by show y * 4294967296 % 4294967296 = 0; omega) hx]
  rfl

set_option maxHeartbeats 800000 in
theorem rShift_neg (A : Option Addr) (n c : Nat) (a : List Nat) (i : Int) (w : World) (hn : n ≤ 100000) (hcn : n ≤ c) (ha : Row w 0 A n a) (h0 : i < 0) (hlo : -9223372036854775808 ≤ i) :
    Calls Tryz.prog 97 #[.slice A n c, .int .i64 i] w fun e w' => ∃ A2 c2, e = .returned (.slice A2 (lim (sh (val a) i)).length c2) ∧ Own w' w.heap.size A2 c2 (lim (sh (val a) i)).length (lim (sh (val a) i)) ∧ Below w.heap.size w w' := by
  obtain ⟨h, hk, hk0, hk1⟩ := held_neg h0
  have E : Hid (sh (val a) i = val (lim (val a)) / 2 ^ h) := by
    show _ = _
    unfold sh
    rw [if_pos (by omega), hk, val_lim]
    congr 2
    omega
  have hna : (lim (val a)).length ≤ n := by have := lim_len_le ha.l32; have := ha.len; omega
  obtain ⟨s, t, hst⟩ : ∃ s t, h = 32 * s + t ∧ t < 32 := ⟨h / 32, h % 32, by omega, by omega⟩
  have ht := hst.2
  have hss : s ≤ 128 := by omega
  have HST := Lib.hid hst.1
  have hst1 := hst.1
  clear hst
  unfold held at hk
  have hq : (h : Int) / 32 = (s : Int) := by omega
  have hr : (h : Int) % 32 = (t : Int) := by omega
  clear hst1
  go_enter Tryz.func97, Tryz.ntmps97
  go_upto_region 1 with (fail)
  go_cut [1] (fun v wx => v = .int .i64 (-(h : Int)) ∧ w = wx)
  case first =>
    clear hq hr
    by_cases hb : i < -4096
    · have e : h = 4096 := by omega
      subst e
      go_wp2
      go_meet
      exact ⟨rfl, rfl⟩
    · have e : i = -(h : Int) := by omega
      subst e
      go_wp2
      go_meet
      exact ⟨rfl, rfl⟩
  case rest =>
    obtain ⟨rfl, rfl⟩ := hcut
    clear hk
    have hd0 : decide (-(h : Int) < 0) = true := by rw [decide_eq_true_iff]; omega
    by_cases hsp : (lim (val a)).length ≤ s
    · have hz : Hid (lim (sh (val a) i) = []) := by
        show _ = _
        have := down_zero (t := t) (L32_lim (val a)) hsp
        rw [E.out, HST.out, this, lim_zero]
      go_wp2_with fail
      refine (rTrim_any A n c a _ (by omega) hcn ha).mono ?_
      rintro e w0 ⟨X, cx, rfl, ho, hb0⟩
      clear ho ha
      go_wp2
      go_ret
      rw [hz.out]
      exact ⟨none, 0, rfl, Own.nil_ _ _, hb0⟩
    · go_wp2_with fail
      refine (rTrim_any A n c a _ (by omega) hcn ha).mono ?_
      rintro e w0 ⟨X, cx, rfl, ho, hb0⟩
      obtain ⟨g, rfl, hg1, hg2⟩ := ho.form (by omega)
      have hcap := ho.capLe
      have hla := (ho.row.lower (Nat.zero_le _)).drop (k := s) (by omega)
      obtain ⟨N, hN⟩ : ∃ N, (lim (val a)).length = s + N := ⟨(lim (val a)).length - s, by omega⟩
      have hN1 : (lim (val a)).length - s = N := by omega
      rw [hN1, Nat.zero_add] at hla
      have HB0 := Lib.hid hb0
      have hz00 := hb0.size
      have hne : ¬ cx = s := by omega
      have HN := Lib.hid hN
      have hN2 : (lim (val a)).length ≤ s + N := by omega
      have hN3 : s + N ≤ (lim (val a)).length := by omega
      have HS0 : Hid (RDnAt w0 w0 ((lim (val a)).drop s) t 0 none 0 []) := ⟨Own.nil_ _ _, fun j hj => absurd hj (by omega), Below.refl _ _⟩
      clear ho hb0 ha hN
      go_wp2
      simp only [hr]
      go_loopw [8, 9] (fun ov iv wr => ∃ (k : Nat) (A2 : Option Addr) (c2 : Nat) (r : List Nat), k ≤ N ∧ ov = .slice A2 k c2 ∧ iv = .int .i64 k ∧ Hid (RDnAt w0 wr ((lim (val a)).drop s) t k A2 c2 r)) (fun _ iv _ => N - (intOf iv).toNat)
      case atStart => exact ⟨0, none, 0, [], by omega, rfl, rfl, HS0⟩
      case round =>
        obtain ⟨k, A2, c2, r, hk, rfl, rfl, HA⟩ := hrel
        have OWN := Lib.hid HA.out.own
        have hrw := hla.below HA.out.below
        have hzr := HA.out.below.size
        by_cases hkn : k < N
        · have hx := hla.l32 k
          have hy := hla.l32 (k + 1)
          have hv := Lib.hid (dn_int' (t := t) hx hy)
          have hdl := dn_lt t (dg ((lim (val a)).drop s) k) (dg ((lim (val a)).drop s) (k + 1))
          have STEP : Hid (∀ (A3 : Option Addr) (c3 : Nat) (w1 w3 : World), Own w3 w0.heap.size A3 c3 (k + 1) (r ++ [dn t (dg ((lim (val a)).drop s) k) (dg ((lim (val a)).drop s) (k + 1))]) → Below wr.heap.size wr w1 → w1.grownBy w3 (A2.map (·.block)) →
              RDnAt w0 w3 ((lim (val a)).drop s) t (k + 1) A3 c3 (r ++ [dn t (dg ((lim (val a)).drop s) k) (dg ((lim (val a)).drop s) (k + 1))])) :=
            fun A3 c3 w1 w3 ho h1 hg => HA.out.step ho h1 hg
          clear HA HS0
          go_wp2_with fail
          refine (at_any _ N _ ((lim (val a)).drop s) _ k _ (by omega) hrw rfl).mono ?_
          rintro e w' ⟨rfl, rfl⟩
          go_wp2_with fail
          refine (at_any _ N _ ((lim (val a)).drop s) _ (k + 1) _ (by omega) hrw (by omega)).mono ?_
          rintro e w' ⟨rfl, rfl⟩
          generalize hdg : dg ((lim (val a)).drop s) k = x at *
          generalize hdg2 : dg ((lim (val a)).drop s) (k + 1) = y at *
          clear hdg hdg2
          go_wp2_with (at_builtin; refine wpl_append rfl _ _ rfl rfl rfl (OWN.out.alloc _) (Row.one (x := dn t x y) (lo := 0) ?c1 ?c2 ?c3) ?c4 ?c5 ?_)
          case c1 => exact hv.out
          case c2 => omega
          case c3 => omega
          case c4 => omega
          case c5 => simp; omega
          intro A3 c3 w3 ho3 hg3
          have HA3 := Lib.hid (STEP.out A3 c3 _ w3 ho3 (below_alloc _ _) hg3)
          clear STEP ho3 hg3 hrw
          go_wp2
          go_roundw
          case rel => exact ⟨k + 1, A3, c3, _, by omega, rfl, by go_num, HA3⟩
          case measure => simp [intOf]; omega
        · have E1 : Hid (val r = sh (val a) i) := by
            show _ = _
            have hlr := OWN.out.len
            have := down_val (L32_lim (val a)) ht (s := s) (r := r) (by omega) (by omega) (fun j hj => HA.out.dig j (by omega))
            rw [this, E.out, HST.out]
          have hrow := OWN.out.row.lower (Nat.zero_le _)
          have hcap2 := OWN.out.capLe
          have hb3 := HA.out.below
          clear HA HS0 hrw
          go_wp2_with fail
          refine (rTrim_any A2 k c2 r _ (by omega) hcap2 hrow).mono ?_
          rintro e w3 ⟨A3, c3, rfl, ho3, hb4⟩
          have HO := Lib.hid ((ho3.lower hzr).lower hz00)
          have HB4 := Lib.hid (HB0.out.trans ((hb3.trans (hb4.mono hzr)).mono hz00))
          clear ho3 hb4 hb3
          go_wp2
          go_ret
          have HO2 := HO.out
          rw [E1.out] at HO2
          exact ⟨A3, c3, by rw [← E1.out]; rfl, HO2, HB4.out⟩

theorem rShift_any (A : Option Addr) (n c : Nat) (a : List Nat) (i : Int) (w : World) (hn : n ≤ 100000) (hcn : n ≤ c) (ha : Row w 0 A n a) (hi : -9223372036854775808 ≤ i ∧ i ≤ 9223372036854775807) :
    Calls Tryz.prog 97 #[.slice A n c, .int .i64 i] w fun e w' => ∃ A2 c2, e = .returned (.slice A2 (lim (sh (val a) i)).length c2) ∧ Own w' w.heap.size A2 c2 (lim (sh (val a) i)).length (lim (sh (val a) i)) ∧ Below w.heap.size w w' := by
  by_cases h0 : i < 0
  · exact rShift_neg A n c a i w hn hcn ha h0 hi.1
  · exact rShift_pos A n c a i w hn hcn ha (by omega) hi.2
end Go.Proofs.YtffnjdfmaebmhaaGreatDoor
