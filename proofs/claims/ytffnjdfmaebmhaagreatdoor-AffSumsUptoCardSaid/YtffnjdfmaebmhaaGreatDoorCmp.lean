/-
  Which of two rows is the greater: the program's Cmp.
-/
import Derived.Test.YtffnjdfmaebmhaaGreatDoorLimbs
import Derived.Test.YtffnjdfmaebmhaaGreatDoorCmpNum
namespace Go.Proofs.YtffnjdfmaebmhaaGreatDoor
set_option maxRecDepth 20000
open Go.RowKit

/-- A callee that leaves the world alone, met behind draws. -/
theorem qcall {P : Program} {f : FuncId} {args : Array Value} {w : World} {a k : Nat} {v : Value}
    (h : Calls P f args (w.drewN (a + k)) fun e w' => e = .returned v ∧ w' = w.drewN (a + k)) : Calls P f args (w.drewN (a + k)) fun e w' => e = .returned v ∧ ∃ m, w' = w.drewN (a + m) :=
  h.mono fun _ _ h => ⟨h.1, k, h.2⟩

set_option maxHeartbeats 400000 in
theorem order_yes (w : World) : Calls Tryz.prog 82 #[.bool true] w fun e w' => e = .returned (.int .i64 (-1)) ∧ w' = w := by
  go_enter Tryz.func82, Tryz.ntmps82
  go_wp2
  go_ret
  exact ⟨rfl, rfl⟩
set_option maxHeartbeats 400000 in
theorem order_no (w : World) : Calls Tryz.prog 82 #[.bool false] w fun e w' => e = .returned (.int .i64 1) ∧ w' = w := by
  go_enter Tryz.func82, Tryz.ntmps82
  go_wp2
  go_ret
  exact ⟨rfl, rfl⟩

set_option maxHeartbeats 800000 in
theorem Cmp_any (A B : Option Addr) (n m c d : Nat) (a b : List Nat) (w : World) (hn : n ≤ 1000000) (hm : m ≤ 1000000) (hcn : n ≤ c) (hdm : m ≤ d) (ha : Row w 0 A n a) (hb : Row w 0 B m b) :
    Calls Tryz.prog 57 #[.slice A n c, .slice B m d] w fun e w' => e = .returned (.int .i64 (cmpI (val a) (val b))) ∧ ∃ q, w' = w.drewN q := by
  have hla := ha.lim
  have hlb := hb.lim
  have hna : (lim (val a)).length ≤ n := by have := lim_len_le ha.l32; have := ha.len; omega
  have hnb : (lim (val b)).length ≤ m := by have := lim_len_le hb.l32; have := hb.len; omega
  go_enter Tryz.func57, Tryz.ntmps57
  go_wp2_with fail
  refine (head_any A n c a _ (by omega) hcn ha).mono ?_
  rintro e w' ⟨rfl, rfl⟩
  go_wp2_with fail
  refine (head_any B m d b _ (by omega) hdm hb).mono ?_
  rintro e w' ⟨rfl, rfl⟩
  clear ha hb
  by_cases hlen : (lim (val a)).length = (lim (val b)).length
  · have HL := Lib.hid hlen
    have hne : (((lim (val a)).length : Int) != ((lim (val b)).length : Int)) = false := by simp [hlen]
    have hlb' : Row w 0 B (lim (val a)).length (lim (val b)) := by rw [hlen]; exact hlb
    clear hlb hlen
    go_wp2
    go_loopw [5] (fun v wr => ∃ k q : Nat, k ≤ (lim (val a)).length ∧ v = .int .i64 ((k : Int) - 1) ∧ Hid (∀ j, k ≤ j → dg (lim (val a)) j = dg (lim (val b)) j) ∧ wr = w.drewN q) (fun v _ => (intOf v + 1).toNat)
    case atStart => exact ⟨_, 0, Nat.le_refl _, rfl, fun j hj => by rw [dg_out hj, dg_out (by rw [← HL.out]; exact hj)], rfl⟩
    case round =>
      obtain ⟨k, q, hk, rfl, HE, rfl⟩ := hrel
      by_cases h0 : k = 0
      · subst h0
        have hv : val a = val b := by
          have := val_eq_of HL.out (fun j => HE.out j (Nat.zero_le _))
          rwa [val_lim, val_lim] at this
        have HV := Lib.hid (cmpI_eq hv)
        clear hv hla hlb'
        go_wp2
        go_ret
        exact ⟨by rw [HV.out]; rfl, q, rfl⟩
      · obtain ⟨k, rfl⟩ : ∃ j, k = j + 1 := ⟨k - 1, by omega⟩
        obtain ⟨b1, off1, rfl, h1, h2, hc1⟩ := hla.mem (by omega)
        obtain ⟨b2, off2, rfl, h3, h4, hc2⟩ := hlb'.mem (by omega)
        have hx := hc1 k (by omega)
        have hy := hc2 k (by omega)
        have HF : Hid ((dg (lim (val a)) k < dg (lim (val b)) k → val a < val b) ∧ (dg (lim (val b)) k < dg (lim (val a)) k → val b < val a)) := by
          constructor
          · intro h
            have := val_lt_of (L32_lim (val a)) HL.out (by omega) h (fun j hj => HE.out j (by omega))
            rwa [val_lim, val_lim] at this
          · intro h
            have := val_lt_of (L32_lim (val b)) HL.out.symm (by have := HL.out; omega) h (fun j hj => (HE.out j (by omega)).symm)
            rwa [val_lim, val_lim] at this
        have hk1 : k < (lim (val a)).length := by omega
        have hk2 : k < (lim (val b)).length := by have := HL.out; omega
        have he1 : ((k + 1 : Nat) : Int) - 1 = (k : Int) := by omega
        simp only [he1]
        clear hc1 hc2 hla hlb' he1
        by_cases heq : dg (lim (val a)) k = dg (lim (val b)) k
        · have HE2 : Hid (∀ j, k ≤ j → dg (lim (val a)) j = dg (lim (val b)) j) := by
            intro j hj
            by_cases hjk : j = k
            · subst hjk; exact heq
            · exact HE.out j (by omega)
          rw [← heq] at hy
          clear heq HF HE
          go_wp2
          go_quiet (fail)
          go_wp2
          go_roundw
          case rel => exact ⟨k, _, by omega, by go_num, HE2, rfl⟩
          case measure => simp [intOf]
        · have hb1 : (((dg (lim (val a)) k : Nat) : Int) != ((dg (lim (val b)) k : Nat) : Int)) = true := by rw [bne_iff_ne]; omega
          by_cases hlt : dg (lim (val a)) k < dg (lim (val b)) k
          · have HV := Lib.hid (cmpI_lt (HF.out.1 hlt))
            have hd : decide (dg (lim (val a)) k < dg (lim (val b)) k) = true := by simp; omega
            clear heq HE HF
            go_wp2
            go_quiet (fail)
            go_wp2
            go_quiet ((go_at_call 82; exact qcall (order_yes _)))
            go_wp2
            go_ret
            exact ⟨by rw [HV.out]; rfl, _, by simp only [World.drewN_drewN]; rfl⟩
          · have HV := Lib.hid (cmpI_gt (HF.out.2 (by omega)))
            have hd : decide (dg (lim (val a)) k < dg (lim (val b)) k) = false := by simp; omega
            clear heq HE HF
            go_wp2
            go_quiet (fail)
            go_wp2
            go_quiet ((go_at_call 82; exact qcall (order_no _)))
            go_wp2
            go_ret
            exact ⟨by rw [HV.out]; rfl, _, by simp only [World.drewN_drewN]; rfl⟩
  · have hne : (((lim (val a)).length : Int) != ((lim (val b)).length : Int)) = true := by rw [bne_iff_ne]; omega
    by_cases hlt : (lim (val a)).length < (lim (val b)).length
    · have HV := Lib.hid (cmpI_lt (lt_of_len hlt))
      clear hlen
      go_wp2_with fail
      refine (order_yes _).mono ?_
      rintro e w' ⟨rfl, rfl⟩
      go_wp2
      go_ret
      exact ⟨by rw [HV.out]; rfl, 0, rfl⟩
    · have HV := Lib.hid (cmpI_gt (lt_of_len (show (lim (val b)).length < (lim (val a)).length by omega)))
      clear hlen
      go_wp2_with fail
      refine (order_no _).mono ?_
      rintro e w' ⟨rfl, rfl⟩
      go_wp2
      go_ret
      exact ⟨by rw [HV.out]; rfl, 0, rfl⟩
end Go.Proofs.YtffnjdfmaebmhaaGreatDoor
