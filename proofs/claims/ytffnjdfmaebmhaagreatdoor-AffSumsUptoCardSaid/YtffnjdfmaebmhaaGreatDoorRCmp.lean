/-
  Which of two rows is the greater: the document's Cmp.
-/
import Derived.Test.YtffnjdfmaebmhaaGreatDoorCmp
namespace Go.Proofs.YtffnjdfmaebmhaaGreatDoor
set_option maxRecDepth 20000
open Go.RowKit

theorem below_drewN (B : Nat) (w : World) (q : Nat) : Below B w (w.drewN q) := ⟨rfl, rfl, rfl, Nat.le_refl _, fun _ _ => rfl⟩

set_option maxHeartbeats 800000 in
theorem rCmp_any (A B : Option Addr) (n m c d : Nat) (a b : List Nat) (w : World) (hn : n ≤ 1000000) (hm : m ≤ 1000000) (hcn : n ≤ c) (hdm : m ≤ d) (ha : Row w 0 A n a) (hb : Row w 0 B m b) :
    Calls Tryz.prog 66 #[.slice A n c, .slice B m d] w fun e w' => e = .returned (.int .i64 (cmpI (val a) (val b))) ∧ Below w.heap.size w w' := by
  have hna : (lim (val a)).length ≤ n := by have := lim_len_le ha.l32; have := ha.len; omega
  have hnb : (lim (val b)).length ≤ m := by have := lim_len_le hb.l32; have := hb.len; omega
  go_enter Tryz.func66, Tryz.ntmps66
  go_wp2_with fail
  refine (rTrim_any A n c a _ (by omega) hcn ha).mono ?_
  rintro e w1 ⟨X, cx, rfl, ho, hb1⟩
  have hla := ho.row.lower (Nat.zero_le _)
  replace hb := hb.below hb1
  clear ho ha
  go_wp2_with fail
  refine (rTrim_any B m d b _ (by omega) hdm hb).mono ?_
  rintro e w2 ⟨Y, cy, rfl, ho, hb2⟩
  have hlb := ho.row.lower (Nat.zero_le _)
  replace hla := hla.below hb2
  have HB := Lib.hid (hb1.trans (hb2.mono hb1.size))
  clear ho hb hb1 hb2
  by_cases hlen : (lim (val a)).length = (lim (val b)).length
  · have HL := Lib.hid hlen
    have hne : (((lim (val a)).length : Int) != ((lim (val b)).length : Int)) = false := by simp [hlen]
    have hlb' : Row w2 0 Y (lim (val a)).length (lim (val b)) := by rw [hlen]; exact hlb
    clear hlb hlen
    go_wp2
    go_loopw [7] (fun v wr => ∃ k q : Nat, k ≤ (lim (val a)).length ∧ v = .int .i64 ((k : Int) - 1) ∧ Hid (∀ j, k ≤ j → dg (lim (val a)) j = dg (lim (val b)) j) ∧ wr = w2.drewN q) (fun v _ => (intOf v + 1).toNat)
    case atStart => exact ⟨_, 0, Nat.le_refl _, rfl, fun j hj => by rw [dg_out hj, dg_out (by rw [← HL.out]; exact hj)], rfl⟩
    case round =>
      obtain ⟨k, q, hk, rfl, HE, rfl⟩ := hrel
      by_cases h0 : k = 0
      · subst h0
        have hv : val a = val b := by
          have := val_eq_of HL.out (fun j => HE.out j (Nat.zero_le _))
          rwa [val_lim, val_lim] at this
        have HV := Lib.hid (cmpI_eq hv)
        clear hv hla hlb'
        go_wp2
        go_ret
        exact ⟨by rw [HV.out]; rfl, HB.out.trans (below_drewN _ _ _)⟩
      · obtain ⟨k, rfl⟩ : ∃ j, k = j + 1 := ⟨k - 1, by omega⟩
        obtain ⟨b1, off1, rfl, h1, h2, hc1⟩ := hla.mem (by omega)
        obtain ⟨b2, off2, rfl, h3, h4, hc2⟩ := hlb'.mem (by omega)
        have hx := hc1 k (by omega)
        have hy := hc2 k (by omega)
        have HF : Hid ((dg (lim (val a)) k < dg (lim (val b)) k → val a < val b) ∧ (dg (lim (val b)) k < dg (lim (val a)) k → val b < val a)) := by
          constructor
          · intro h
            have := val_lt_of (L32_lim (val a)) HL.out (by omega) h (fun j hj => HE.out j (by omega))
            rwa [val_lim, val_lim] at this
          · intro h
            have := val_lt_of (L32_lim (val b)) HL.out.symm (by have := HL.out; omega) h (fun j hj => (HE.out j (by omega)).symm)
            rwa [val_lim, val_lim] at this
        have hk1 : k < (lim (val a)).length := by omega
        have hk2 : k < (lim (val b)).length := by have := HL.out; omega
        have he1 : ((k + 1 : Nat) : Int) - 1 = (k : Int) := by omega
        simp only [he1]
        clear hc1 hc2 hla hlb' he1
        by_cases heq : dg (lim (val a)) k = dg (lim (val b)) k
        · have HE2 : Hid (∀ j, k ≤ j → dg (lim (val a)) j = dg (lim (val b)) j) := by
            intro j hj
            by_cases hjk : j = k
            · subst hjk; exact heq
            · exact HE.out j (by omega)
          rw [← heq] at hy
          clear heq HF HE
          go_wp2
          go_quiet (fail)
          go_wp2
          go_quiet (fail)
          go_wp2
          go_roundw
          case rel => exact ⟨k, _, by omega, by go_num, HE2, by first | rfl | (simp only [World.drewN_drewN]; rfl)⟩
          case measure => simp [intOf]
        · by_cases hlt : dg (lim (val a)) k < dg (lim (val b)) k
          · have HV := Lib.hid (cmpI_lt (HF.out.1 hlt))
            have hd : decide (dg (lim (val a)) k < dg (lim (val b)) k) = true := by simp; omega
            clear heq HE HF
            go_wp2
            go_quiet (fail)
            go_wp2
            go_ret
            exact ⟨by rw [HV.out]; rfl, HB.out.trans ((below_drewN _ _ _).trans (below_drewN _ _ _))⟩
          · have HV := Lib.hid (cmpI_gt (HF.out.2 (by omega)))
            have hgt : dg (lim (val b)) k < dg (lim (val a)) k := by omega
            have hd : decide (dg (lim (val a)) k < dg (lim (val b)) k) = false := by simp; omega
            have hd2 : decide (dg (lim (val b)) k < dg (lim (val a)) k) = true := by simp; omega
            clear heq HE HF
            go_wp2
            go_quiet (fail)
            go_wp2
            go_quiet (fail)
            go_wp2
            go_ret
            exact ⟨by rw [HV.out]; rfl, HB.out.trans ((below_drewN _ _ _).trans ((below_drewN _ _ _).trans (below_drewN _ _ _)))⟩
  · have hne : (((lim (val a)).length : Int) != ((lim (val b)).length : Int)) = true := by rw [bne_iff_ne]; omega
    by_cases hlt : (lim (val a)).length < (lim (val b)).length
    · have HV := Lib.hid (cmpI_lt (lt_of_len hlt))
      clear hlen
      go_wp2
      go_ret
      exact ⟨by rw [HV.out]; rfl, HB.out⟩
    · have HV := Lib.hid (cmpI_gt (lt_of_len (show (lim (val b)).length < (lim (val a)).length by omega)))
      clear hlen
      go_wp2
      go_ret
      exact ⟨by rw [HV.out]; rfl, HB.out⟩
end Go.Proofs.YtffnjdfmaebmhaaGreatDoor
