/-
  A digit of a quotient, guessed.
-/
import Derived.Test.YtffnjdfmaebmhaaGreatDoorDivNum
import Derived.Test.YtffnjdfmaebmhaaGreatDoorTo
namespace Go.Proofs.YtffnjdfmaebmhaaGreatDoor
set_option maxRecDepth 20000
open Go.RowKit

theorem or_step2 {x y : Nat} (hx : x < 4294967296) (hy : y < 4294967296) : bits BinOp.or IntKind.u64 ((y : Int) * 4294967296) (x : Int) = ((y * 4294967296 + x : Nat) : Int) := by
  have e : (y : Int) * 4294967296 = ((y * 4294967296 : Nat) : Int) := by omega
  rw [e, u64_or_nat _ _ (by omega) (by omega), nat_join 32 _ x (by show y * 4294967296 % 4294967296 = 0; omega) hx]

/-- What the loop of guess keeps. -/
structure GuessAt (p v : List Nat) (m D L : Nat) : Prop where
  top : dg p m * 4294967296 + dg p (m - 1) = D * dg v (m - 1) + L
  up : val p < (D + 1) * val v

set_option maxHeartbeats 1600000 in
theorem guess_any (X Y : Option Addr) (m cx cy : Nat) (p v : List Nat) (w : World) (hm : 2 ≤ m) (hm2 : m ≤ 100000) (hp : Row w 0 X (m + 1) p) (hv : Row w 0 Y m v) (hn : 2147483648 ≤ dg v (m - 1)) (hlt : val p < val v * 4294967296) :
    Calls Tryz.prog 132 #[.slice X (m + 1 : Nat) cx, .slice Y m cy] w fun e w' => ∃ d : Nat, e = .returned (.int .u32 (d : Int)) ∧ d < 4294967296 ∧ val p < (d + 1) * val v ∧ d * val v ≤ val p + val v ∧ ∃ q, w' = w.drewN q := by
  obtain ⟨b1, off1, rfl, h1, h2, hc1⟩ := hp.mem (by omega)
  obtain ⟨b2, off2, rfl, h3, h4, hc2⟩ := hv.mem (by omega)
  have c1 := hc1 m (by omega)
  have c2 := hc1 (m - 1) (by omega)
  have c3 := hc1 (m - 2) (by omega)
  have c4 := hc2 (m - 1) (by omega)
  have c5 := hc2 (m - 2) (by omega)
  have l1 := hp.l32 m
  have l2 := hp.l32 (m - 1)
  have l3 := hp.l32 (m - 2)
  have l4 := hv.l32 (m - 1)
  have l5 := hv.l32 (m - 2)
  have hT := top_lt hm hv.len hp.len hv.l32 hlt
  have K1 : Hid (∀ d, d < 4294967296 → d * (dg v (m - 1) * 4294967296 + dg v (m - 2)) ≤ (dg p m * 4294967296 + dg p (m - 1)) * 4294967296 + dg p (m - 2) → d * val v ≤ val p + val v) :=
    fun d hd hle => guess_ok hm hv.len hp.len hv.l32 hn hd hle
  have K2 : Hid (∀ d, (dg p m * 4294967296 + dg p (m - 1)) * 4294967296 + dg p (m - 2) < (d + 1) * (dg v (m - 1) * 4294967296 + dg v (m - 2)) → val p < (d + 1) * val v) :=
    fun d h => guess_up hm hv.len hp.len hp.l32 h
  have HLT := Lib.hid hlt
  have hor1 := or_step2 l2 l1
  clear hp hv hc1 hc2 hlt
  have hF1 : 1 ≤ dg v (m - 1) := by omega
  have hFn : ¬ dg v (m - 1) = 0 := by omega
  have hD1 := quot_le hT hn
  have HST : Hid (GuessAt p v m ((dg p m * 4294967296 + dg p (m - 1)) / dg v (m - 1)) ((dg p m * 4294967296 + dg p (m - 1)) % dg v (m - 1))) :=
    ⟨start_eq _ _, K2.out _ (start_up hF1 l3)⟩
  have hL1 : (dg p m * 4294967296 + dg p (m - 1)) % dg v (m - 1) < 4294967296 := by
    have : (dg p m * 4294967296 + dg p (m - 1)) % dg v (m - 1) < dg v (m - 1) := Nat.mod_lt _ (by omega)
    omega
  go_enter Tryz.func132, Tryz.ntmps132
  go_wp2
  go_quiet (fail)
  go_wp2
  go_quiet (fail)
  go_wp2
  go_quiet (fail)
  go_wp2
  go_loopw [9, 10] (fun dv lv wr => ∃ (D L q : Nat), D ≤ 4294967297 ∧ L < 4294967296 ∧ dv = .int .u64 D ∧ lv = .int .u64 L ∧ wr = w.drewN q ∧ Hid (GuessAt p v m D L)) (fun dv _ _ => (intOf dv).toNat)
  case atStart => exact ⟨_, _, _, hD1, hL1, by go_num, by go_num, by simp only [World.drewN_drewN]; rfl, HST⟩
  case round =>
    obtain ⟨D, L, q, hD, hL, rfl, rfl, rfl, HA⟩ := hrel
    have hor := or_step2 l3 hL
    clear HST hor1 hD1 hL1 c1 c2 c4 c5 hn
    have hLv : L + dg v (m - 1) < 8589934592 := by omega
    by_cases hbig : ¬ D < 4294967296
    · have HN : Hid (GuessAt p v m (D - 1) (L + dg v (m - 1))) := by
        refine ⟨dec_eq HA.out.top (by omega), ?_⟩
        have h1 : val v * 4294967296 ≤ D * val v := by rw [Nat.mul_comm]; exact Nat.mul_le_mul_right _ (by omega)
        have h2 := HLT.out
        rw [show D - 1 + 1 = D by omega]
        omega
      have HB := Lib.hid (fun h : 4294967296 ≤ L + dg v (m - 1) => brk_ok (Q := dg p (m - 2)) HN.out.top h hT l5)
      have hD2 : D = 4294967296 ∨ D = 4294967297 := by omega
      clear HA hbig hD hT
      rcases hD2 with rfl | rfl
      all_goals
        by_cases hbrk : L + dg v (m - 1) < 4294967296
        · go_wp2
          go_roundw
          case rel => exact ⟨_, L + dg v (m - 1), q, by omega, hbrk, by go_num, by go_num, rfl, HN⟩
          case measure => simp [intOf]
        · have HB2 := Lib.hid (HB.out (by omega))
          have hbi : (4294967295 : Int) < (L : Int) + ((dg v (m - 1) : Nat) : Int) := by omega
          clear hbrk HB
          go_wp2
          go_ret
          obtain ⟨e1, e2⟩ := HB2.out
          first
            | (exfalso; omega)
            | exact ⟨_, ret_int rfl, e1, HN.out.up, K1.out _ e1 e2, q, rfl⟩
    · have hsm : D < 4294967296 := by omega
      have hp := mul_max hsm l5
      clear hbig hD
      by_cases htest : L * 4294967296 + dg p (m - 2) < D * dg v (m - 2)
      · have hD0 : 1 ≤ D := by
          rcases Nat.eq_zero_or_pos D with h0 | h0
          · subst h0; simp at htest
          · exact h0
        have HN : Hid (GuessAt p v m (D - 1) (L + dg v (m - 1))) := by
          refine ⟨dec_eq HA.out.top hD0, K2.out _ ?_⟩
          rw [show D - 1 + 1 = D by omega]
          exact (test_iff HA.out.top).1 htest
        have HB := Lib.hid (fun h : 4294967296 ≤ L + dg v (m - 1) => brk_ok (Q := dg p (m - 2)) HN.out.top h hT l5)
        have hti : ((L : Int) * 4294967296 + ((dg p (m - 2) : Nat) : Int)) < (D : Int) * ((dg v (m - 2) : Nat) : Int) := by omega
        have hd1 : ((D - 1 : Nat) : Int) = (D : Int) - 1 := by omega
        clear HA hT
        by_cases hbrk : L + dg v (m - 1) < 4294967296
        · go_wp2
          go_roundw
          case rel => exact ⟨D - 1, L + dg v (m - 1), q, by omega, hbrk, by rw [hd1], by go_num, rfl, HN⟩
          case measure => simp [intOf]; omega
        · have HB2 := Lib.hid (HB.out (by omega))
          have hbi : (4294967295 : Int) < (L : Int) + ((dg v (m - 1) : Nat) : Int) := by omega
          clear hbrk HB
          go_wp2
          go_ret
          obtain ⟨e1, e2⟩ := HB2.out
          exact ⟨D - 1, ret_int (by omega), e1, HN.out.up, K1.out _ e1 e2, q, rfl⟩
      · have HK := Lib.hid (K1.out D hsm (exit_ok HA.out.top htest))
        have hti : ¬ ((L : Int) * 4294967296 + ((dg p (m - 2) : Nat) : Int)) < (D : Int) * ((dg v (m - 2) : Nat) : Int) := by omega
        have HU := Lib.hid HA.out.up
        clear HA hT
        go_wp2
        go_ret
        exact ⟨D, ret_int (by omega), hsm, HU.out, HK.out, q, rfl⟩
end Go.Proofs.YtffnjdfmaebmhaaGreatDoor
