/-
  FltSigns: the walk of the law over small rationals.
-/
import Derived.Test.YtmehlbdlllkcgaaFltQ
import Derived.Test.YtmehlbdlllkcgaaRefP
namespace Go.Proofs.Ytmehlbdlllkcgaa
set_option maxRecDepth 20000
open Go.RowKit

/-- The bits are bits. -/
theorem tof_lt {r : Rat} {p : Nat} (h : Sz r p) (hp : p ≤ 120) : tof r < 18446744073709551616 := by
  by_cases h0 : r = 0
  · subst h0; decide
  · rw [tof_ne h0]
    have hd := dbl_lt (x := r.num.natAbs) (by have := num_ne h0; omega) r.den_nz (h.den.more (by omega))
    generalize dbl r.num.natAbs r.den = D at *
    split
    · omega
    · split <;> omega
theorem tof_neg {r : Rat} (h : tof r ≠ 0) {p : Nat} (hz : Sz r p) (hp : p ≤ 120) : bits BinOp.xor IntKind.u64 ((tof r : Nat) : Int) ((tof (-r) : Nat) : Int) = 9223372036854775808 := by
  have h0 : r ≠ 0 := by intro e; subst e; exact h (by decide)
  have h0' : -r ≠ 0 := by
    intro e
    exact h0 (by have := congrArg (fun x => -x) e; simpa using this)
  have l1 := tof_lt hz hp
  have l2 := tof_lt hz.neg hp
  have hd := dbl_lt (x := r.num.natAbs) (by have := num_ne h0; omega) r.den_nz (hz.den.more (by omega))
  have hsg : decide ((-r).num < 0) = !decide (r.num < 0) := by
    rw [sign_neg, decide_eq_true h0, Bool.and_true]
  have e1 := tof_ne h0
  have e2 := tof_ne h0'
  rw [hsg, Rat.neg_num, Int.natAbs_neg, Rat.neg_den] at e2
  have hD : dbl r.num.natAbs r.den ≠ 0 := by
    intro e
    rw [if_pos e] at e1
    exact h e1
  rw [if_neg hD] at e1 e2
  rw [bits_xor_u64_nat _ _ l1 l2, e1, e2]
  generalize dbl r.num.natAbs r.den = D at *
  clear e1 e2 l1 l2 hsg h0' h0 h hz
  have e63 : (9223372036854775808 : Nat) = 2 ^ 63 := rfl
  have hx : D ^^^ (9223372036854775808 + D) = 9223372036854775808 := by
    have h1 : 9223372036854775808 + D = 9223372036854775808 ^^^ D := by
      have h2 : 9223372036854775808 ||| D = 9223372036854775808 + D := nat_join 63 9223372036854775808 D (by decide) hd
      rw [← h2]
      refine Nat.eq_of_testBit_eq fun i => ?_
      rw [Nat.testBit_or, Nat.testBit_xor, e63, Nat.testBit_two_pow]
      by_cases hi : 63 = i
      · subst hi
        rw [Nat.testBit_lt_two_pow (by rw [← e63]; exact hd)]; rfl
      · rw [decide_eq_false hi]; cases D.testBit i <;> rfl
    rw [h1, Nat.xor_comm 9223372036854775808, ← Nat.xor_assoc, Nat.xor_self, Nat.zero_xor]
  cases hq : decide (r.num < 0)
  · rw [if_neg (by decide), Nat.zero_add, Bool.not_false, if_pos rfl, hx]; rfl
  · rw [if_pos rfl, Bool.not_true, if_neg (by decide), Nat.zero_add, Nat.xor_comm, hx]; rfl
theorem tof_neg0 {r : Rat} (h : tof r = 0) : tof (-r) = 0 := by
  by_cases h0 : r = 0
  · subst h0; rfl
  · have h0' : -r ≠ 0 := by
      intro e
      exact h0 (by have := congrArg (fun x => -x) e; simpa using this)
    have e1 := tof_ne h0
    have e2 := tof_ne h0'
    rw [Rat.neg_num, Int.natAbs_neg, Rat.neg_den] at e2
    by_cases hD : dbl r.num.natAbs r.den = 0
    · rw [if_pos hD] at e2; exact e2
    · rw [if_neg hD] at e1
      rw [h] at e1
      generalize (if decide (r.num < 0) = true then 9223372036854775808 else 0) = q at *
      omega
theorem kd_nought {u : Nat} {s : Bool} {e m : Nat} (h : Parts u s e m) : kd s e m = 1 ↔ u = 0 := by
  have h1 := h.exp
  have h2 := h.frac
  have h3 := h.eq
  unfold kd
  constructor
  · intro hk
    split at hk
    · split at hk
      · omega
      · split at hk <;> omega
    · split at hk
      · rename_i he
        cases s
        · rw [if_neg (by decide)] at h3; omega
        · rw [if_pos rfl] at hk; omega
      · omega
  · intro hu
    rw [hu] at h3
    have hs : s = false := by cases s; rfl; rw [if_pos rfl] at h3; omega
    subst hs
    rw [if_neg (by decide)] at h3
    rw [if_neg (by omega), if_pos ⟨by omega, by omega⟩]
    rfl

set_option maxRecDepth 100000 in
set_option maxHeartbeats 8000000 in
theorem FltSigns_small (v : Rv) (r : Rat) (w : World) (hlen : v.n + v.m ≤ 16) (h_v : Rw w v r 16) :
    Calls Try.prog 12 #[.agg #[.bool v.s, .slice v.A v.n v.c, .slice v.B v.m v.d]] w fun e w' => e = .returned (.bool true) ∧ Below w.heap.size w w' := by
  have hb64 := fun b => bits64 b
  have z_r := h_v.sz (by omega)
  have z_n := Lib.hid z_r.neg
  obtain ⟨s1, e1, m1, P1⟩ := parts_of (tof_lt z_r (by omega))
  obtain ⟨s2, e2, m2, P2⟩ := parts_of (tof_lt z_r.neg (by omega))
  have hk1 := Lib.hid (fun (w : World) => Kind_c _ s1 e1 m1 w P1)
  have hk2 := Lib.hid (fun (w : World) => Kind_c _ s2 e2 m2 w P2)
  have n1 := Lib.hid (kd_nought P1)
  have n2 := Lib.hid (kd_nought P2)
  have hneg := Lib.hid (fun h => tof_neg (r := r) h z_r (by omega))
  have hneg0 := Lib.hid (tof_neg0 (r := r))
  clear P1 P2 z_r
  go_enter Try.func12, Try.ntmps12
  go_wp2_with fail
  generalize hW : (w.alloc (.cells #[.bool v.s, .slice v.A v.n v.c, .slice v.B v.m v.d] 24)).alloc (.cells #[.bool v.s, .slice v.A v.n v.c, .slice v.B v.m v.d] 24) = W
  obtain ⟨k_v, HB, hsW, hbig⟩ := open1b w v W hW
  clear hW
  refine (big4_any (pick v v v) (w.heap.size + 1) 1 _ (by omega) ?_ hbig).mono ?_
  · intro i hi
    have : i = 0 := by omega
    rcases this with rfl <;> simp only [pick] <;> omega
  rintro e w0 ⟨rfl, hb⟩
  rw [decide_eq_false (show ¬ 16 < tot (pick v v v) 1 by simp only [tot, pick]; omega)]
  replace HB := HB.trans (hb.mono (by omega))
  replace k_v := k_v.below hb
  clear hb hbig hsW
  have hv := (h_v.below HB).drew
  clear h_v hlen
  obtain ⟨v_0, v_1, v_2, v_3, v_4, v_5⟩ := k_v.facts
  go_wp2_with fail
  clear v_0 v_1 v_2 v_3 v_4 v_5
  go_cut [3, 4] (fun va vb wx => va = .float .f64 (tof r) ∧ vb = .float .f64 (tof (-r)) ∧ Hid (Below w.heap.size w wx))
  case first =>
    obtain ⟨v_0, v_1, v_2, v_3, v_4, v_5⟩ := k_v.facts
    replace k_v := k_v.drew
    replace HB := HB.drew
    have mk0 : Hid True := trivial
    go_region_held3 (fun w' => w'.cell? ⟨w.heap.size, 0, none⟩ = some (.bool v.s) ∧ w'.cell? ⟨w.heap.size, 1, none⟩ = some (.slice v.A v.n v.c) ∧ w'.cell? ⟨w.heap.size, 2, none⟩ = some (.slice v.B v.m v.d)) (go_keep)
      (first
      | (go_at_call 40
         have mk1 := mk0
         clear mk0
         refine (To_c v r _ (hv.more (by omega))).mono ?_
         rintro e w1 ⟨rfl, hb⟩
         replace HB := HB.trans (hb.mono HB.size)
         replace k_v := k_v.below hb
         replace hv := hv.below hb
         clear hb v_0 v_1 v_2 v_3 v_4 v_5
         obtain ⟨v_0, v_1, v_2, v_3, v_4, v_5⟩ := k_v.facts)
      | (go_at_call 45
         have mk2 := mk1
         clear mk1
         refine (rNeg_c v r _ (hv.more (by omega))).mono ?_
         rintro e w2 ⟨z, rfl, hz, hb⟩
         replace HB := HB.trans (hb.mono HB.size)
         replace k_v := k_v.below hb
         have hz2 := (hz.rw z_n.out).more (show 16 ≤ 125 by omega)
         clear hb v_0 v_1 v_2 v_3 v_4 v_5 hz
         obtain ⟨v_0, v_1, v_2, v_3, v_4, v_5⟩ := k_v.facts)
      | (go_at_call 40
         clear mk2
         refine (To_c z (-r) _ hz2).mono ?_
         rintro e w3 ⟨rfl, hb⟩
         replace HB := HB.trans (hb.mono HB.size)
         replace k_v := k_v.below hb
         clear hb v_0 v_1 v_2 v_3 v_4 v_5
         obtain ⟨v_0, v_1, v_2, v_3, v_4, v_5⟩ := k_v.facts))
    all_goals (
      go_wp2_with fail
      go_meet
      exact ⟨rfl, rfl, Lib.hid HB⟩)
  obtain ⟨rfl, rfl, HC⟩ := hcut
  clear HB k_v hv
  have HB := HC.out
  clear HC
  by_cases h0 : tof r = 0
  · have hk1' := Lib.hid (n1.out.2 h0)
    have hk2' := Lib.hid (n2.out.2 (hneg0.out h0))
    have E1 : Hid (∀ w, Calls Try.prog 33 #[.float .f64 (tof r)] w fun r w' => r = .returned (.int .i64 1) ∧ w = w') := by
      intro w
      have := hk1.out w
      rw [hk1'.out] at this
      exact this
    have E2 : Hid (∀ w, Calls Try.prog 33 #[.float .f64 (tof (-r))] w fun r w' => r = .returned (.int .i64 1) ∧ w = w') := by
      intro w
      have := hk2.out w
      rw [hk2'.out] at this
      exact this
    clear h0 hk1 hk2 hk1' hk2' n1 n2 hneg hneg0
    generalize tof r = a at *
    generalize tof (-r) = b at *
    go_wp2_with fail
    refine (E1.out _).mono ?_
    rintro r w' ⟨rfl, rfl⟩
    go_wp2_with fail
    refine (E2.out _).mono ?_
    rintro r w' ⟨rfl, rfl⟩
    go_wp2_with fail
    refine (known4_any _).mono ?_
    rintro r w2 ⟨rfl, hb2⟩
    replace HB := HB.trans (hb2.mono HB.size)
    clear hb2
    go_wp2
    go_ret
    exact ⟨rfl, HB⟩
  · have f1 : ((kd s1 e1 m1 : Nat) : Int) ≠ 1 := by
      have := n1.out
      omega
    have f2 : (((kd s1 e1 m1 : Nat) : Int) == 1) = false := by rw [beq_eq_false_iff_ne]; exact f1
    have hx := hneg.out h0
    have E1 := hk1
    clear h0 hk1 hk2 n1 n2 hneg hneg0 f1
    generalize tof r = a at *
    generalize tof (-r) = b at *
    generalize ((kd s1 e1 m1 : Nat) : Int) = K at *
    go_wp2_with fail
    refine (E1.out _).mono ?_
    rintro r w' ⟨rfl, rfl⟩
    go_wp2_with fail
    refine (known4_any _).mono ?_
    rintro r w2 ⟨rfl, hb2⟩
    replace HB := HB.trans (hb2.mono HB.size)
    clear hb2
    go_wp2
    go_ret
    exact ⟨rfl, HB⟩
end Go.Proofs.Ytmehlbdlllkcgaa
