/-
  FltBack: the walk of the law.
-/
import Derived.Test.YtmehlbdlllkcgaaFltQ
namespace Go.Proofs.Ytmehlbdlllkcgaa
set_option maxRecDepth 20000
open Go.RowKit

set_option maxHeartbeats 1600000 in
theorem FltBack_c (u : Nat) (s : Bool) (e m : Nat) (w : World) (h : Parts u s e m) :
    Calls Try.prog 7 #[.int .u64 (u : Int)] w fun r w' => r = .returned (.bool true) ∧ Below w.heap.size w w' := by
  have hfr := fun n => frombits64 n
  have hb := fun b => bits64 b
  have hu2 : ((u : Nat) : Int).toNat = u := by omega
  have hu : 0 ≤ (u : Int) := by omega
  have hsm := Lib.hid (fun (w : World) => small4_c u s e m w h)
  have hkd := Lib.hid (fun (w : World) => Kind_c u s e m w h)
  by_cases h1 : e = 2047
  · have hs : sm e = true := by unfold sm; rw [decide_eq_true (.inl h1)]
    have hfrom := Lib.hid (fun (w : World) => From_err u s e m w h h1)
    have hk := kd_err (s := s) (m := m) h1
    have hk3 : 3 ≤ ((kd s e m : Nat) : Int) := by rw [hk]; split <;> (try split) <;> omega
    obtain ⟨c, hc⟩ : ∃ c : Int, c = (if m ≠ 0 then 16 else 17 : Int) := ⟨_, rfl⟩
    rw [← hc] at hfrom
    have hc0 : (c != 0) = true := by rw [hc]; split <;> rfl
    rw [hs] at hsm
    clear hs hk hc h1 h
    generalize ((kd s e m : Nat) : Int) = K at *
    go_enter Try.func7, Try.ntmps7
    go_wp2_with fail
    refine (hsm.out _).mono ?_
    rintro r w' ⟨rfl, rfl⟩
    go_wp2_with fail
    refine (hfrom.out _).mono ?_
    rintro r w1 ⟨rfl, hb1⟩
    have HB := Lib.hid (hb1.trans (((Below.refl w1.heap.size w1).alloc (Nat.le_refl _) (.cells #[.bool zRv.s, .slice zRv.A zRv.n zRv.c, .slice zRv.B zRv.m zRv.d] 24)).mono hb1.size))
    clear hb1
    go_wp2_with fail
    refine (hkd.out _).mono ?_
    rintro r w' ⟨rfl, rfl⟩
    go_wp2_with fail
    refine (known4_any _).mono ?_
    rintro r w2 ⟨rfl, hb2⟩
    have HB2 := Lib.hid (HB.out.trans (hb2.mono HB.out.size))
    clear hb2
    go_wp2
    go_ret
    exact ⟨rfl, HB2.out⟩
  · by_cases hs : sm e = false
    · rw [hs] at hsm
      clear hs h1 h hkd
      go_enter Try.func7, Try.ntmps7
      go_wp2_with fail
      refine (hsm.out _).mono ?_
      rintro r w' ⟨rfl, rfl⟩
      go_wp2
      go_ret
      exact ⟨rfl, Below.refl _ _⟩
    · have hs' : sm e = true := by cases hq : sm e <;> simp_all
      have hfrom := Lib.hid (fun (w : World) => From_num u s e m w h h1)
      have hsz := Lib.hid (frq_sz (s := s) (show e < 2047 by have := h.exp; omega) h.frac)
      have ht := Lib.hid (tof_frq h h1)
      have hk := kd_num (s := s) (m := m) h1
      rw [hs'] at hsm
      clear hs hs' h1 h
      generalize frq s e m = F at *
      generalize kd s e m = K at *
      go_enter Try.func7, Try.ntmps7
      go_wp2_with fail
      refine (hsm.out _).mono ?_
      rintro r w' ⟨rfl, rfl⟩
      go_wp2_with fail
      refine (hfrom.out _).mono ?_
      rintro r w1 ⟨z, rfl, hz, hb1⟩
      have k := C3.new w1 (.bool z.s) (.slice z.A z.n z.c) (.slice z.B z.m z.d)
      have hb2 := (Below.refl w1.heap.size w1).alloc (Nat.le_refl _) (.cells #[.bool z.s, .slice z.A z.n z.c, .slice z.B z.m z.d] 24)
      replace hz := hz.below hb2
      have HB := hb1.trans (hb2.mono hb1.size)
      clear hb1 hb2
      go_wp2_with fail
      refine (hkd.out _).mono ?_
      rintro r w' ⟨rfl, rfl⟩
      have hv := ((hz.rw hsz.out).more (show 40 ≤ 125 by omega))
      clear hz hsz hfrom hkd hsm
      generalize w1.alloc (.cells #[.bool z.s, .slice z.A z.n z.c, .slice z.B z.m z.d] 24) = w2 at *
      generalize w1.heap.size = zb at *
      obtain ⟨q0, q1, q2, g0, g1, g2⟩ := k.facts
      by_cases h2 : K = 2
      · have f1 : ((K : Int) == 2) = true := by rw [beq_iff_eq]; omega
        have E : Hid (tof F = 0) := by show _ = _; rw [ht.out, if_pos h2]
        clear h2 hk ht
        go_wp2_with fail
        refine (To_c z F _ hv).mono ?_
        rintro r w3 ⟨rfl, hb3⟩
        rw [E.out]
        replace HB := HB.trans (hb3.mono HB.size)
        clear hb3 E hv k q0 q1 q2 g0 g1 g2
        go_wp2_with fail
        refine (known4_any _).mono ?_
        rintro r w4 ⟨rfl, hb4⟩
        replace HB := HB.trans (hb4.mono HB.size)
        clear hb4
        go_wp2
        go_ret
        exact ⟨rfl, HB⟩
      · have f1 : ((K : Int) == 2) = false := by rw [beq_eq_false_iff_ne]; omega
        have E : Hid (tof F = u) := by show _ = _; rw [ht.out, if_neg h2]
        clear h2 hk ht
        go_wp2_with fail
        refine (To_c z F _ hv).mono ?_
        rintro r w3 ⟨rfl, hb3⟩
        rw [E.out]
        replace HB := HB.trans (hb3.mono HB.size)
        clear hb3 E hv k q0 q1 q2 g0 g1 g2
        go_wp2_with fail
        refine (known4_any _).mono ?_
        rintro r w4 ⟨rfl, hb4⟩
        replace HB := HB.trans (hb4.mono HB.size)
        clear hb4
        go_wp2
        go_ret
        exact ⟨rfl, HB⟩
theorem FltBack_any (i : Int) (w : World) (hi : 0 ≤ i ∧ i ≤ 18446744073709551615) :
    Calls Try.prog 7 #[.int .u64 i] w fun r w' => r = .returned (.bool true) ∧ Below w.heap.size w w' := by
  obtain ⟨u, rfl⟩ := Int.eq_ofNat_of_zero_le hi.1
  obtain ⟨s, e, m, h⟩ := parts_of (u := u) (by omega)
  exact FltBack_c u s e m w h
end Go.Proofs.Ytmehlbdlllkcgaa
