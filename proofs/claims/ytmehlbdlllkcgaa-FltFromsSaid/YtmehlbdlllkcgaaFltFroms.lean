/-
  FltFroms: the walk of the law.
-/
import Derived.Test.YtmehlbdlllkcgaaFltQ
import Derived.Test.YtmehlbdlllkcgaaRefQ
namespace Go.Proofs.Ytmehlbdlllkcgaa
set_option maxRecDepth 20000
open Go.RowKit

set_option maxHeartbeats 4000000 in
theorem FltFroms_c (u : Nat) (s : Bool) (e m : Nat) (w : World) (h : Parts u s e m) :
    Calls Try.prog 5 #[.int .u64 (u : Int)] w fun r w' => r = .returned (.bool true) ∧ Below w.heap.size w w' := by
  have hfr := fun n => frombits64 n
  have hu2 : ((u : Nat) : Int).toNat = u := by omega
  have hu : 0 ≤ (u : Int) := by omega
  have hsm := Lib.hid (fun (w : World) => small4_c u s e m w h)
  have hkd := Lib.hid (fun (w : World) => Kind_c u s e m w h)
  have hrkd := Lib.hid (fun (w : World) => rKind_c u s e m w h)
  have hbi := Lib.hid (fun (w : World) => Bits64_c u s e m w h)
  have hrbi := Lib.hid (fun (w : World) => rBits64_c u s e m w h)
  have b1 : (((e : Nat) : Int) == ((e : Nat) : Int)) = true := by simp
  have b2 : (((m : Nat) : Int) == ((m : Nat) : Int)) = true := by simp
  have b3 : (s == s) = true := by simp
  have hex := h.exp
  have hmx := h.frac
  by_cases h1 : e = 2047
  · have hs : sm e = true := by unfold sm; rw [decide_eq_true (.inl h1)]
    have hfrom := Lib.hid (fun (w : World) => From_err u s e m w h h1)
    have hrfrom := Lib.hid (fun (w : World) => rFrom_err u s e m w h h1)
    obtain ⟨c, hc⟩ : ∃ c : Int, c = (if m ≠ 0 then 16 else 17 : Int) := ⟨_, rfl⟩
    rw [← hc] at hfrom hrfrom
    have hc0 : (c != 0) = true := by rw [hc]; split <;> rfl
    have hc1 : 16 ≤ c ∧ c ≤ 17 := by rw [hc]; split <;> omega
    have b4 : (c == c) = true := by simp
    rw [hs] at hsm
    clear hs hc h1 h
    generalize ((kd s e m : Nat) : Int) = K at *
    go_enter Try.func5, Try.ntmps5
    go_wp2_with fail
    refine (hsm.out _).mono ?_
    rintro r w' ⟨rfl, rfl⟩
    go_wp2_with fail
    refine (hfrom.out _).mono ?_
    rintro r w1 ⟨rfl, hb1⟩
    have k1 := C3.new w1 (.bool zRv.s) (.slice zRv.A zRv.n zRv.c) (.slice zRv.B zRv.m zRv.d)
    have HB := hb1.trans (((Below.refl w1.heap.size w1).alloc (Nat.le_refl _) (.cells #[.bool zRv.s, .slice zRv.A zRv.n zRv.c, .slice zRv.B zRv.m zRv.d] 24)).mono hb1.size)
    clear hb1
    go_wp2_with fail
    refine (hrfrom.out _).mono ?_
    rintro r w2 ⟨z, rfl, hz, hb2⟩
    have k2 := C3.new w2 (.bool z.s) (.slice z.A z.n z.c) (.slice z.B z.m z.d)
    have hb3 := (Below.refl w2.heap.size w2).alloc (Nat.le_refl _) (.cells #[.bool z.s, .slice z.A z.n z.c, .slice z.B z.m z.d] 24)
    replace k1 := (k1.below hb2).below hb3
    replace hz := hz.below hb3
    replace HB := HB.trans (hb2.mono HB.size)
    replace HB := HB.trans (hb3.mono HB.size)
    clear hb2 hb3
    go_wp2_with fail
    refine (hbi.out _).mono ?_
    rintro r w' ⟨rfl, rfl⟩
    go_wp2_with fail
    refine (hrbi.out _).mono ?_
    rintro r w' ⟨rfl, rfl⟩
    obtain ⟨q0, q1, q2, g0, g1, g2⟩ := k1.facts
    obtain ⟨p0, p1, p2, o0, o1, o2⟩ := k2.facts
    have hv := (hz.rw (Sz.zero (p := 1) (by omega))).more (show 1 ≤ 124 by omega)
    have hv0 := zRv_rw (w2.alloc (.cells #[.bool z.s, .slice z.A z.n z.c, .slice z.B z.m z.d] 24)) 124
    clear hz
    go_wp2_with fail
    refine (rSame_v zRv z 0 0 true _ hv0 hv (by simp)).mono ?_
    rintro r w3 ⟨rfl, hb4⟩
    replace HB := HB.trans (hb4.mono HB.size)
    clear hb4 hv hv0 k1 k2 q0 q1 q2 g0 g1 g2 p0 p1 p2 o0 o1 o2
    go_wp2_with fail
    refine (hkd.out _).mono ?_
    rintro r w' ⟨rfl, rfl⟩
    go_wp2_with fail
    refine (hrkd.out _).mono ?_
    rintro r w' ⟨rfl, rfl⟩
    go_wp2_with fail
    refine (known4_any _).mono ?_
    rintro r w4 ⟨rfl, hb5⟩
    replace HB := HB.trans (hb5.mono HB.size)
    clear hb5
    go_wp2
    go_ret
    exact ⟨rfl, HB⟩
  · by_cases hs : sm e = false
    · rw [hs] at hsm
      clear hs h1 h hkd
      go_enter Try.func5, Try.ntmps5
      go_wp2_with fail
      refine (hsm.out _).mono ?_
      rintro r w' ⟨rfl, rfl⟩
      go_wp2
      go_ret
      exact ⟨rfl, Below.refl _ _⟩
    · have hs' : sm e = true := by cases hq : sm e <;> simp_all
      have hfrom := Lib.hid (fun (w : World) => From_num u s e m w h h1)
      have hrfrom := Lib.hid (fun (w : World) => rFrom_num u s e m w h h1)
      have hsz := Lib.hid (frq_sz (s := s) (show e < 2047 by omega) h.frac)
      rw [hs'] at hsm
      clear hs hs' h1 h
      generalize frq s e m = F at *
      generalize ((kd s e m : Nat) : Int) = K at *
      go_enter Try.func5, Try.ntmps5
      go_wp2_with fail
      refine (hsm.out _).mono ?_
      rintro r w' ⟨rfl, rfl⟩
      go_wp2_with fail
      refine (hfrom.out _).mono ?_
      rintro r w1 ⟨y, rfl, hy, hb1⟩
      have k1 := C3.new w1 (.bool y.s) (.slice y.A y.n y.c) (.slice y.B y.m y.d)
      have hb0 := (Below.refl w1.heap.size w1).alloc (Nat.le_refl _) (.cells #[.bool y.s, .slice y.A y.n y.c, .slice y.B y.m y.d] 24)
      have HB := hb1.trans (hb0.mono hb1.size)
      replace hy := hy.below hb0
      clear hb1 hb0
      go_wp2_with fail
      refine (hrfrom.out _).mono ?_
      rintro r w2 ⟨z, rfl, hz, hb2⟩
      have k2 := C3.new w2 (.bool z.s) (.slice z.A z.n z.c) (.slice z.B z.m z.d)
      have hb3 := (Below.refl w2.heap.size w2).alloc (Nat.le_refl _) (.cells #[.bool z.s, .slice z.A z.n z.c, .slice z.B z.m z.d] 24)
      replace k1 := (k1.below hb2).below hb3
      replace hy := (hy.below hb2).below hb3
      replace hz := hz.below hb3
      replace HB := HB.trans (hb2.mono HB.size)
      replace HB := HB.trans (hb3.mono HB.size)
      clear hb2 hb3
      go_wp2_with fail
      refine (hbi.out _).mono ?_
      rintro r w' ⟨rfl, rfl⟩
      go_wp2_with fail
      refine (hrbi.out _).mono ?_
      rintro r w' ⟨rfl, rfl⟩
      obtain ⟨q0, q1, q2, g0, g1, g2⟩ := k1.facts
      obtain ⟨p0, p1, p2, o0, o1, o2⟩ := k2.facts
      have hv := (hz.rw hsz.out).more (show 40 ≤ 124 by omega)
      have hv0 := (hy.rw hsz.out).more (show 40 ≤ 124 by omega)
      go_wp2_with fail
      refine (rSame_v y z F F true _ hv0 hv (by simp)).mono ?_
      rintro r w3 ⟨rfl, hb4⟩
      replace HB := HB.trans (hb4.mono HB.size)
      replace k1 := k1.below hb4
      replace k2 := k2.below hb4
      replace hy := hy.below hb4
      replace hz := hz.below hb4
      have l1 := hv0.numLe
      have l2 := hv0.denLe
      clear hb4 hv hv0 q0 q1 q2 g0 g1 g2 p0 p1 p2 o0 o1 o2
      obtain ⟨q0, q1, q2, g0, g1, g2⟩ := k1.facts
      obtain ⟨p0, p1, p2, o0, o1, o2⟩ := k2.facts
      go_wp2_with fail
      refine (one4_yes y z _ _ _ _ _ hy hz rfl (by omega) (by omega)).mono ?_
      rintro r w4 ⟨rfl, hb4⟩
      replace HB := HB.trans (hb4.mono HB.size)
      clear hb4 hy hz k1 k2 q0 q1 q2 g0 g1 g2 p0 p1 p2 o0 o1 o2 l1 l2
      go_wp2_with fail
      refine (hkd.out _).mono ?_
      rintro r w' ⟨rfl, rfl⟩
      go_wp2_with fail
      refine (hrkd.out _).mono ?_
      rintro r w' ⟨rfl, rfl⟩
      go_wp2_with fail
      refine (known4_any _).mono ?_
      rintro r w5 ⟨rfl, hb5⟩
      replace HB := HB.trans (hb5.mono HB.size)
      clear hb5
      go_wp2
      go_ret
      exact ⟨rfl, HB⟩
theorem FltFroms_any (i : Int) (w : World) (hi : 0 ≤ i ∧ i ≤ 18446744073709551615) :
    Calls Try.prog 5 #[.int .u64 i] w fun r w' => r = .returned (.bool true) ∧ Below w.heap.size w w' := by
  obtain ⟨u, rfl⟩ := Int.eq_ofNat_of_zero_le hi.1
  obtain ⟨s, e, m, h⟩ := parts_of (u := u) (by omega)
  exact FltFroms_c u s e m w h
end Go.Proofs.Ytmehlbdlllkcgaa
