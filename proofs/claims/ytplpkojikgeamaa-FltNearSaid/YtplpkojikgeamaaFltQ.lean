/-
  The document's rationals: a whole number.
  A number of 64 bits as a rational, exactly: the program's way, the document's way.
  The document's numbers of 64 bits: exactly as a rational.
  The document's nearest number of 64 bits, first part: near, Inf, sign.
  The document's nearest number of 64 bits.
  The law's own helpers: limbs, one, big, small, shifted, known.
  What the laws of numbers of 64 bits stand on: sizes, a number back, its sign.
-/
import Derived.Test.YtplpkojikgeamaaRef1
import Derived.Test.YtplpkojikgeamaaTo
import Derived.Test.YtplpkojikgeamaaFltP
import Derived.Test.YtplpkojikgeamaaRatP
import Derived.Test.YtplpkojikgeamaaLeaf
import Derived.Test.YtplpkojikgeamaaLong
namespace Go.Proofs.Ytplpkojikgeamaa
set_option maxRecDepth 20000
open Go.RowKit

theorem one_row (w : World) (lo : Nat) (h : lo ≤ w.heap.size) : Row (w.alloc (.cells #[.int .u32 1] 25)) lo (some ⟨w.heap.size, 0, none⟩) 1 [1] := Row.one rfl (by omega) h

set_option maxHeartbeats 1600000 in
theorem rInt_true (x : Nat) (i : Int) (w : World) (hi : -9223372036854775808 ≤ i ∧ i ≤ 9223372036854775807) (hx : i = -(x : Int)) (h : i < 0) :
    Calls Try.prog 54 #[.int .i64 i] w fun e w' => ∃ z : Rv, e = .returned (.agg #[.bool z.s, .slice z.A z.n z.c, .slice z.B z.m z.d]) ∧ Rt w' w.heap.size z (i : Rat) ∧ Below w.heap.size w w' := by
  have hw : IntKind.u64.wrap (-IntKind.u64.wrap (-(x : Int))) = (x : Int) := by
    have e64 : ∀ n : Int, IntKind.u64.wrap n = n % 18446744073709551616 := fun _ => rfl
    rw [e64, e64]; omega
  have u_ := h
  clear u_
  have hri : rn true x 1 = (i : Rat) := rn_int_eq _ _ _ (by simp [hx])
  have HR := Lib.hid hri
  clear hri
  have hl1 : (lim x).length ≤ 2 := lim_len_lt (by omega)
  go_enter Try.func54, Try.ntmps54
  go_wp2_with fail
  refine (rOf_any x _ (by omega)).mono ?_
  rintro e w1 ⟨A, c, rfl, ho, hb1⟩
  have hr1 := ho.row.lower (Nat.zero_le _)
  have hc1 := ho.capLe
  have k := (C3.new w (.bool false) (.slice none 0 0) (.slice none 0 0)).at hb1 (by simp)
  have hk1 := k.lt
  have HB := (((Below.refl w.heap.size w).alloc (Nat.le_refl _) (.cells #[.bool false, .slice none 0 0, .slice none 0 0] 24)).trans (hb1.mono (by simp)))
  clear ho hb1
  go_wp2_with fail
  have hr2 := one_row w1 0 (Nat.zero_le _)
  have hbn := (Below.refl w1.heap.size w1).alloc (Nat.le_refl _) (.cells #[.int .u32 1] 25)
  replace hr1 := hr1.below hbn
  replace k := k.below hbn
  replace HB := HB.trans (hbn.mono HB.size)
  refine (rOf_n true A _ _ 1 c 1 x 1 _ [1] (i : Rat) _ (val_lim _) rfl (by omega) (by omega) hc1 (Nat.le_refl _) hr1 hr2 HR.out).mono ?_
  rintro e w3 ⟨u, rfl, hu, hb3⟩
  have hs3 : w1.heap.size + 1 ≤ w3.heap.size := by have := hb3.size; simpa using this
  have hsz : w.heap.size < (w1.alloc (.cells #[.int .u32 1] 25)).heap.size := k.lt
  replace k := k.below hb3
  replace HB := HB.trans (hb3.mono HB.size)
  obtain ⟨q0, q1, q2, g0, g1, g2⟩ := k.facts
  clear hb3 hr1 hr2 hbn
  go_wp2
  refine ret3 (fn := Try.f54) Try.results54 rfl rfl k ?_
  exact ⟨u, rfl, (hu.put hsz _ _ _).lower (Nat.le_of_lt hsz), HB.trans (put3_below (Nat.le_refl _) _ _ _)⟩

set_option maxHeartbeats 1600000 in
theorem rInt_false (x : Nat) (i : Int) (w : World) (hi : -9223372036854775808 ≤ i ∧ i ≤ 9223372036854775807) (hx : i = (x : Int)) (h : ¬ i < 0) :
    Calls Try.prog 54 #[.int .i64 i] w fun e w' => ∃ z : Rv, e = .returned (.agg #[.bool z.s, .slice z.A z.n z.c, .slice z.B z.m z.d]) ∧ Rt w' w.heap.size z (i : Rat) ∧ Below w.heap.size w w' := by
  have u_ := h
  clear u_
  have hri : rn false x 1 = (i : Rat) := rn_int_eq _ _ _ (by simp [hx])
  have HR := Lib.hid hri
  clear hri
  have hl1 : (lim x).length ≤ 2 := lim_len_lt (by omega)
  go_enter Try.func54, Try.ntmps54
  go_wp2_with fail
  refine (rOf_any x _ (by omega)).mono ?_
  rintro e w1 ⟨A, c, rfl, ho, hb1⟩
  have hr1 := ho.row.lower (Nat.zero_le _)
  have hc1 := ho.capLe
  have k := (C3.new w (.bool false) (.slice none 0 0) (.slice none 0 0)).at hb1 (by simp)
  have hk1 := k.lt
  have HB := (((Below.refl w.heap.size w).alloc (Nat.le_refl _) (.cells #[.bool false, .slice none 0 0, .slice none 0 0] 24)).trans (hb1.mono (by simp)))
  clear ho hb1
  go_wp2_with fail
  have hr2 := one_row w1 0 (Nat.zero_le _)
  have hbn := (Below.refl w1.heap.size w1).alloc (Nat.le_refl _) (.cells #[.int .u32 1] 25)
  replace hr1 := hr1.below hbn
  replace k := k.below hbn
  replace HB := HB.trans (hbn.mono HB.size)
  refine (rOf_n false A _ _ 1 c 1 x 1 _ [1] (i : Rat) _ (val_lim _) rfl (by omega) (by omega) hc1 (Nat.le_refl _) hr1 hr2 HR.out).mono ?_
  rintro e w3 ⟨u, rfl, hu, hb3⟩
  have hs3 : w1.heap.size + 1 ≤ w3.heap.size := by have := hb3.size; simpa using this
  have hsz : w.heap.size < (w1.alloc (.cells #[.int .u32 1] 25)).heap.size := k.lt
  replace k := k.below hb3
  replace HB := HB.trans (hb3.mono HB.size)
  obtain ⟨q0, q1, q2, g0, g1, g2⟩ := k.facts
  clear hb3 hr1 hr2 hbn
  go_wp2
  refine ret3 (fn := Try.f54) Try.results54 rfl rfl k ?_
  exact ⟨u, rfl, (hu.put hsz _ _ _).lower (Nat.le_of_lt hsz), HB.trans (put3_below (Nat.le_refl _) _ _ _)⟩

theorem rInt_c (i : Int) (w : World) (hi : -9223372036854775808 ≤ i ∧ i ≤ 9223372036854775807) :
    Calls Try.prog 54 #[.int .i64 i] w fun e w' => ∃ z : Rv, e = .returned (.agg #[.bool z.s, .slice z.A z.n z.c, .slice z.B z.m z.d]) ∧ Rt w' w.heap.size z (i : Rat) ∧ Below w.heap.size w w' := by
  by_cases h : i < 0
  · exact rInt_true i.natAbs i w hi (by omega) h
  · exact rInt_false i.natAbs i w hi (by omega) h

end Go.Proofs.Ytplpkojikgeamaa

namespace Go.Proofs.Ytplpkojikgeamaa
set_option maxRecDepth 20000
open Go.RowKit

theorem rn_scale (s : Bool) {k : Nat} (x y : Nat) (hk : 0 < k) : rn s (k * x) (k * y) = rn s x y := by
  unfold rn
  have h := fun n : Int => Rat.mkRat_mul_left (n := n) (d := y) (show k ≠ 0 by omega)
  cases s
  · have := h (x : Int)
    rw [← Int.natCast_mul] at this
    exact this
  · have := h (-(x : Int))
    rw [Int.mul_neg, ← Int.natCast_mul] at this
    exact this

/-- The rational that a number of 64 bits is. -/
def frq (s : Bool) (e m : Nat) : Rat := rn s (worth (4503599627370496 * e + m)) (2 ^ el)

/-- How often which power of two. -/
structure Unit (e m c : Nat) (p : Int) : Prop where
  lo : -1074 ≤ p
  hi : p ≤ 971
  cnt : c < 9007199254740992
  val : ∀ s, rn s (c * 2 ^ p.toNat) (1 * 2 ^ (-p).toNat) = frq s e m
theorem unit_val {e m c E : Nat} {p : Int} (hp : p = (E : Int) - 1074) (hw : worth (4503599627370496 * e + m) = c * 2 ^ E) (s : Bool) : rn s (c * 2 ^ p.toNat) (1 * 2 ^ (-p).toNat) = frq s e m := by
  unfold frq
  rw [hw, Nat.one_mul]
  have hl := el_eq
  by_cases h : 0 ≤ p
  · have e1 : (-p).toNat = 0 := by omega
    have e2 : E = el + p.toNat := by omega
    rw [e1, e2, Nat.pow_add, Nat.mul_left_comm, Nat.pow_zero]
    have := rn_scale s (k := 2 ^ el) (c * 2 ^ p.toNat) 1 (Nat.pow_pos (by omega))
    rw [Nat.mul_one] at this
    exact this.symm
  · have e1 : p.toNat = 0 := by omega
    have e2 : el = E + (-p).toNat := by omega
    rw [e1, e2, Nat.pow_add, Nat.pow_zero, Nat.mul_one, Nat.mul_comm c]
    exact (rn_scale s (k := 2 ^ E) c (2 ^ (-p).toNat) (Nat.pow_pos (by omega))).symm
theorem unit_low {m : Nat} (hm : m < 4503599627370496) : Unit 0 m m (-1074) :=
  ⟨by omega, by omega, by omega, unit_val (E := 0) (by omega) (by rw [worth_at (by omega) (by omega)])⟩
theorem unit_high {e m : Nat} (h0 : e ≠ 0) (he : e < 2047) (hm : m < 4503599627370496) : Unit e m (4503599627370496 + m) ((e : Int) - 1 - 1074) := by
  refine ⟨by omega, by omega, by omega, unit_val (E := e - 1) (by omega) ?_⟩
  rw [← worth_at (e := e - 1) (by omega) (by omega)]
  congr 1
  obtain ⟨e, rfl⟩ : ∃ d, e = d + 1 := ⟨e - 1, by omega⟩
  rw [Nat.add_sub_cancel, Nat.mul_add]; omega

theorem or_lead {m : Nat} (h : m < 4503599627370496) : bits BinOp.or IntKind.u64 4503599627370496 (m : Int) = ((4503599627370496 + m : Nat) : Int) := by
  have h1 := bits_or_u64_nat 4503599627370496 m (by omega) (by omega)
  rw [nat_join 52 4503599627370496 m (by decide) h] at h1
  exact h1
theorem or_lead' {m : Nat} (h : m < 4503599627370496) : bits BinOp.or IntKind.u64 (m : Int) 4503599627370496 = ((4503599627370496 + m : Nat) : Int) := by
  have h1 := bits_or_u64_nat m 4503599627370496 (by omega) (by omega)
  rw [Nat.or_comm, nat_join 52 4503599627370496 m (by decide) h] at h1
  exact h1

set_option maxHeartbeats 1000000 in
theorem units_c (u : Nat) (s : Bool) (e m : Nat) (w : World) (h : Parts u s e m) (h2 : e ≠ 2047) :
    Calls Try.prog 79 #[.float .f64 u] w fun r w' => ∃ (c : Nat) (p : Int), r = .returned (.tuple #[.bool s, .int .u64 (c : Int), .int .i64 p]) ∧ Unit e m c p ∧ w = w' := by
  have H := Lib.hid h
  have he := h.exp
  by_cases h0 : e = 0
  · have U := Lib.hid (show Unit e m m (-1074) from by rw [h0]; exact unit_low h.frac)
    have f1 : ((e : Int) == 0) = true := by rw [beq_iff_eq]; omega
    clear h h0 h2
    go_enter Try.func79, Try.ntmps79
    go_wp2_with fail
    refine (Bits64_c u s e m _ H.out).mono ?_
    rintro r w' ⟨rfl, rfl⟩
    go_wp2
    go_ret3
    exact ⟨m, -1074, rfl, U.out, rfl⟩
  · obtain ⟨c, hc⟩ : ∃ c, c = 4503599627370496 + m := ⟨_, rfl⟩
    have U := Lib.hid (show Unit e m c ((e : Int) - 1 - 1074) from by rw [hc]; exact unit_high h0 (by omega) h.frac)
    have f1 : ((e : Int) == 0) = false := by rw [beq_eq_false_iff_ne]; omega
    have ho : bits BinOp.or IntKind.u64 4503599627370496 (m : Int) = (c : Int) := by rw [hc]; exact or_lead h.frac
    clear h h0 h2 hc
    go_enter Try.func79, Try.ntmps79
    go_wp2_with fail
    refine (Bits64_c u s e m _ H.out).mono ?_
    rintro r w' ⟨rfl, rfl⟩
    go_wp2
    go_ret3
    exact ⟨c, -1074 + (e : Int) - 1, rfl, by rw [show -1074 + (e : Int) - 1 = (e : Int) - 1 - 1074 by omega]; exact U.out, rfl⟩

theorem kd_num {s : Bool} {e m : Nat} (h : e ≠ 2047) : kd s e m < 3 := by
  unfold kd
  rw [if_neg h]
  split
  · split <;> omega
  · omega
theorem kd_err {s : Bool} {e m : Nat} (h : e = 2047) : kd s e m = if m ≠ 0 then 5 else if s then 4 else 3 := by unfold kd; rw [if_pos h]

set_option maxHeartbeats 1000000 in
theorem From_num (u : Nat) (s : Bool) (e m : Nat) (w : World) (h : Parts u s e m) (h2 : e ≠ 2047) :
    Calls Try.prog 51 #[.float .f64 u] w fun r w' => ∃ z : Rv, r = .returned (.tuple #[.agg #[.bool z.s, .slice z.A z.n z.c, .slice z.B z.m z.d], .int .i64 0]) ∧ Rt w' w.heap.size z (frq s e m) ∧ Below w.heap.size w w' := by
  have H := Lib.hid h
  have H2 := Lib.hid h2
  have hk := kd_num (s := s) (m := m) h2
  have hkind := Lib.hid (fun (w : World) => Kind_c u s e m w h)
  have e1 : ((kd s e m : Int) == 5) = false := by rw [beq_eq_false_iff_ne]; omega
  have e2 : ((kd s e m : Int) == 3) = false := by rw [beq_eq_false_iff_ne]; omega
  have e3 : ((kd s e m : Int) == 4) = false := by rw [beq_eq_false_iff_ne]; omega
  clear h h2
  generalize kd s e m = K at *
  go_enter Try.func51, Try.ntmps51
  go_wp2_with fail
  refine (hkind.out _).mono ?_
  rintro r w' ⟨rfl, rfl⟩
  have k := C3.new w (.bool false) (.slice none 0 0) (.slice none 0 0)
  have HB := (Below.refl w.heap.size w).alloc (Nat.le_refl _) (.cells #[.bool false, .slice none 0 0, .slice none 0 0] 24)
  have hsW : (w.alloc (.cells #[.bool false, .slice none 0 0, .slice none 0 0] 24)).heap.size = w.heap.size + 1 := by simp
  generalize w.alloc (.cells #[.bool false, .slice none 0 0, .slice none 0 0] 24) = W at *
  go_wp2_with fail
  refine (units_c u s e m _ H.out H2.out).mono ?_
  rintro r w' ⟨c, p, rfl, hU, rfl⟩
  obtain ⟨X, hX⟩ : ∃ X, X = c * 2 ^ p.toNat := ⟨_, rfl⟩
  obtain ⟨Y, hY⟩ : ∃ Y, Y = 1 * 2 ^ (-p).toNat := ⟨_, rfl⟩
  have HV : Hid (rn s X Y = frq s e m) := by rw [hX, hY]; exact hU.val s
  have HX := Lib.hid hX.symm
  have HY := Lib.hid hY.symm
  clear hX hY
  have p1 := hU.lo
  have p2 := hU.hi
  have c1 := hU.cnt
  clear hU H H2 e1 e2 e3 hkind hk
  go_wp2_with fail
  refine (Of_any c _ (by omega)).mono ?_
  rintro r w1 ⟨A1, x1, rfl, ho1, hb1⟩
  have r1 := ho1.row.lower (Nat.zero_le _)
  have k1 := ho1.capLe
  have l1 : (lim c).length ≤ 2 := lim_len_lt (by omega)
  replace k := k.below hb1
  replace HB := HB.trans (hb1.mono HB.size)
  clear ho1 hb1
  go_wp2_with fail
  refine (doubled_c A1 _ x1 _ p X _ (by omega) k1 r1 (by omega) (by rw [val_lim]; exact HX.out)).mono ?_
  rintro r w2 ⟨A2, x2, rfl, ho2, hb2⟩
  have r2 := ho2.row.lower (Nat.zero_le _)
  have k2 := ho2.capLe
  have l2 : (lim X).length ≤ 131 := by rw [← HX.out]; exact (Bd.shl (p := 2) (show c < 4294967296 ^ 2 by omega) (show p.toNat ≤ 4096 by omega)).len
  replace k := k.below hb2
  replace HB := HB.trans (hb2.mono HB.size)
  clear ho2 hb2 r1 k1 l1
  go_wp2_with fail
  refine (Of_any 1 _ (by omega)).mono ?_
  rintro r w3 ⟨A3, x3, rfl, ho3, hb3⟩
  have r3 := ho3.row.lower (Nat.zero_le _)
  have k3 := ho3.capLe
  have l3 : (lim 1).length ≤ 2 := lim_len_lt (by omega)
  replace k := k.below hb3
  replace r2 := r2.below hb3
  replace HB := HB.trans (hb3.mono HB.size)
  clear ho3 hb3
  go_wp2_with fail
  refine (doubled_c A3 _ x3 _ (-p) Y _ (by omega) k3 r3 (by omega) (by rw [val_lim]; exact HY.out)).mono ?_
  rintro r w4 ⟨A4, x4, rfl, ho4, hb4⟩
  have r4 := ho4.row.lower (Nat.zero_le _)
  have k4 := ho4.capLe
  have l4 : (lim Y).length ≤ 131 := by rw [← HY.out]; exact (Bd.shl (p := 2) (show 1 < 4294967296 ^ 2 by omega) (show (-p).toNat ≤ 4096 by omega)).len
  replace k := k.below hb4
  replace r2 := r2.below hb4
  replace HB := HB.trans (hb4.mono HB.size)
  clear ho4 hb4 r3 k3 l3
  go_wp2_with fail
  refine (Of_nums s A2 A4 _ _ x2 x4 X Y _ _ _ _ (val_lim _) (val_lim _) (by omega) (by omega) k2 k4 r2 r4 HV.out).mono ?_
  rintro r w5 ⟨z, rfl, hz, hb5⟩
  have hs4 := k.lt
  replace k := k.below hb5
  have hz' := hz.lower (show w.heap.size + 1 ≤ w4.heap.size from hs4)
  replace HB := HB.trans (hb5.mono HB.size)
  clear hb5 r2 r4 k2 k4 l2 l4 hz HV
  obtain ⟨q0, q1, q2, g0, g1, g2⟩ := k.facts
  go_wp2
  refine ret3t (fn := Try.f51) Try.results51 rfl rfl rfl (k.put _ _ _) ?_
  exact ⟨z, rfl, (hz'.put (by omega) _ _ _).lower (by omega), HB.trans (put3_below (Nat.le_refl _) _ _ _)⟩

/-- The struct of a number that is none. -/
def zRv : Rv := ⟨false, none, 0, 0, none, 0, 0⟩
theorem zRv_rw (w : World) (p : Nat) : Rw w zRv 0 p := ⟨Nat.le_refl _, Nat.le_refl _, Nat.zero_le _, Nat.zero_le _, [], [], Row.nil_ _ _ _, Row.nil_ _ _ _, rn_zero (.inl rfl)⟩

set_option maxHeartbeats 1000000 in
theorem From_err (u : Nat) (s : Bool) (e m : Nat) (w : World) (h : Parts u s e m) (h2 : e = 2047) :
    Calls Try.prog 51 #[.float .f64 u] w fun r w' => r = .returned (.tuple #[.agg #[.bool zRv.s, .slice zRv.A zRv.n zRv.c, .slice zRv.B zRv.m zRv.d], .int .i64 (if m ≠ 0 then 16 else 17 : Int)]) ∧ Below w.heap.size w w' := by
  have hk := kd_err (s := s) (m := m) h2
  have hkind := Lib.hid (fun (w : World) => Kind_c u s e m w h)
  have k := C3.new w (.bool false) (.slice none 0 0) (.slice none 0 0)
  have HB := (Below.refl w.heap.size w).alloc (Nat.le_refl _) (.cells #[.bool false, .slice none 0 0, .slice none 0 0] 24)
  have hst : ∀ W : World, C3 W w.heap.size (.bool false) (.slice none 0 0) (.slice none 0 0) → C3 (put3 W w.heap.size (.bool false) (.slice none 0 0) (.slice none 0 0)) w.heap.size (.bool false) (.slice none 0 0) (.slice none 0 0) := fun W k => k.put _ _ _
  have Hst := Lib.hid hst
  clear h h2 hst
  by_cases hm : m = 0
  · rw [if_neg (by omega)] at hk ⊢
    rw [hk] at hkind
    clear hk hm
    cases s
    all_goals
      go_enter Try.func51, Try.ntmps51
      go_wp2_with fail
      refine (hkind.out _).mono ?_
      rintro r w' ⟨rfl, rfl⟩
      generalize w.alloc (.cells #[.bool false, .slice none 0 0, .slice none 0 0] 24) = W at *
      obtain ⟨q0, q1, q2, g0, g1, g2⟩ := k.facts
      go_wp2
      refine ret3t (fn := Try.f51) Try.results51 rfl rfl rfl (Hst.out _ k) ?_
      exact ⟨rfl, HB.trans (put3_below (Nat.le_refl _) _ _ _)⟩
  · rw [if_pos (by omega)] at hk ⊢
    rw [hk] at hkind
    clear hk hm
    go_enter Try.func51, Try.ntmps51
    go_wp2_with fail
    refine (hkind.out _).mono ?_
    rintro r w' ⟨rfl, rfl⟩
    generalize w.alloc (.cells #[.bool false, .slice none 0 0, .slice none 0 0] 24) = W at *
    obtain ⟨q0, q1, q2, g0, g1, g2⟩ := k.facts
    go_wp2
    refine ret3t (fn := Try.f51) Try.results51 rfl rfl rfl (Hst.out _ k) ?_
    exact ⟨rfl, HB.trans (put3_below (Nat.le_refl _) _ _ _)⟩
end Go.Proofs.Ytplpkojikgeamaa

namespace Go.Proofs.Ytplpkojikgeamaa
set_option maxRecDepth 20000
open Go.RowKit

set_option maxHeartbeats 1000000 in
theorem rFrom_err (u : Nat) (s : Bool) (e m : Nat) (w : World) (h : Parts u s e m) (h2 : e = 2047) :
    Calls Try.prog 23 #[.float .f64 u] w fun r w' => ∃ z : Rv, r = .returned (.tuple #[.agg #[.bool z.s, .slice z.A z.n z.c, .slice z.B z.m z.d], .int .i64 (if m ≠ 0 then 16 else 17 : Int)]) ∧ Rt w' w.heap.size z 0 ∧ Below w.heap.size w w' := by
  have hk := kd_err (s := s) (m := m) h2
  have hkind := Lib.hid (fun (w : World) => rKind_c u s e m w h)
  have hbits := Lib.hid (fun (w : World) => rBits64_c u s e m w h)
  have k := C3.new w (.bool false) (.slice none 0 0) (.slice none 0 0)
  have HB := (Below.refl w.heap.size w).alloc (Nat.le_refl _) (.cells #[.bool false, .slice none 0 0, .slice none 0 0] 24)
  have hsW : (w.alloc (.cells #[.bool false, .slice none 0 0, .slice none 0 0] 24)).heap.size = w.heap.size + 1 := by simp
  have hint := Lib.hid (fun (w : World) => rInt_c 0 w (by omega))
  clear h h2
  by_cases hm : m = 0
  · rw [if_neg (by omega)] at hk ⊢
    rw [hk] at hkind
    clear hk hm
    cases s
    all_goals
      go_enter Try.func23, Try.ntmps23
      go_wp2_with fail
      refine (hbits.out _).mono ?_
      rintro r w' ⟨rfl, rfl⟩
      go_wp2_with fail
      refine (hkind.out _).mono ?_
      rintro r w' ⟨rfl, rfl⟩
      generalize w.alloc (.cells #[.bool false, .slice none 0 0, .slice none 0 0] 24) = W at *
      go_wp2_with fail
      refine (hint.out _).mono ?_
      rintro r w1 ⟨z, rfl, hz, hb1⟩
      replace k := k.below hb1
      replace HB := HB.trans (hb1.mono HB.size)
      clear hb1
      obtain ⟨q0, q1, q2, g0, g1, g2⟩ := k.facts
      go_wp2
      refine ret3t (fn := Try.f23) Try.results23 rfl rfl rfl (k.put _ _ _) ?_
      exact ⟨z, rfl, (hz.put (by omega) _ _ _).lower (by omega), HB.trans (put3_below (Nat.le_refl _) _ _ _)⟩
  · rw [if_pos (by omega)] at hk ⊢
    rw [hk] at hkind
    clear hk hm
    go_enter Try.func23, Try.ntmps23
    go_wp2_with fail
    refine (hbits.out _).mono ?_
    rintro r w' ⟨rfl, rfl⟩
    go_wp2_with fail
    refine (hkind.out _).mono ?_
    rintro r w' ⟨rfl, rfl⟩
    generalize w.alloc (.cells #[.bool false, .slice none 0 0, .slice none 0 0] 24) = W at *
    go_wp2_with fail
    refine (hint.out _).mono ?_
    rintro r w1 ⟨z, rfl, hz, hb1⟩
    replace k := k.below hb1
    replace HB := HB.trans (hb1.mono HB.size)
    clear hb1
    obtain ⟨q0, q1, q2, g0, g1, g2⟩ := k.facts
    go_wp2
    refine ret3t (fn := Try.f23) Try.results23 rfl rfl rfl (k.put _ _ _) ?_
    exact ⟨z, rfl, (hz.put (by omega) _ _ _).lower (by omega), HB.trans (put3_below (Nat.le_refl _) _ _ _)⟩

set_option maxHeartbeats 1000000 in
theorem rFrom_great (u : Nat) (s : Bool) (e m : Nat) (w : World) (h : Parts u s e m) (h2 : e ≠ 2047) (h3 : 1075 ≤ e) :
    Calls Try.prog 23 #[.float .f64 u] w fun r w' => ∃ z : Rv, r = .returned (.tuple #[.agg #[.bool z.s, .slice z.A z.n z.c, .slice z.B z.m z.d], .int .i64 0]) ∧ Rt w' w.heap.size z (frq s e m) ∧ Below w.heap.size w w' := by
  have hk := kd_num (s := s) (m := m) h2
  have hkind := Lib.hid (fun (w : World) => rKind_c u s e m w h)
  have hbits := Lib.hid (fun (w : World) => rBits64_c u s e m w h)
  have k := C3.new w (.bool false) (.slice none 0 0) (.slice none 0 0)
  have HB := (Below.refl w.heap.size w).alloc (Nat.le_refl _) (.cells #[.bool false, .slice none 0 0, .slice none 0 0] 24)
  have hsW : (w.alloc (.cells #[.bool false, .slice none 0 0, .slice none 0 0] 24)).heap.size = w.heap.size + 1 := by simp
  obtain ⟨c, hc⟩ : ∃ c, c = 4503599627370496 + m := ⟨_, rfl⟩
  have hU : Unit e m c ((e : Int) - 1 - 1074) := by rw [hc]; exact unit_high (by omega) (by have := h.exp; omega) h.frac
  have ho : bits BinOp.or IntKind.u64 (m : Int) 4503599627370496 = (c : Int) := by rw [hc]; exact or_lead' h.frac
  obtain ⟨X, hX⟩ : ∃ X, X = c * 2 ^ ((e : Int) - 1 - 1074).toNat := ⟨_, rfl⟩
  have he := h.exp
  have HV : Hid (rn s X 1 = frq s e m) := by
    show _ = _
    rw [hX, ← hU.val s, show (-((e : Int) - 1 - 1074)).toNat = 0 by omega]
  have HX : Hid (sh (val (lim c)) ((e : Int) - 1075) = X) := by
    show _ = _
    rw [val_lim, sh_up (by omega) (by omega), hX]
    congr 2
    omega
  have l2 : (lim X).length ≤ 131 := by rw [hX]; exact (Bd.shl (p := 2) (show c < 4294967296 ^ 2 by have := hU.cnt; omega) (by omega)).len
  have e1 : ((kd s e m : Int) == 5) = false := by rw [beq_eq_false_iff_ne]; omega
  have e2 : ((kd s e m : Int) == 3) = false := by rw [beq_eq_false_iff_ne]; omega
  have e3 : ((kd s e m : Int) == 4) = false := by rw [beq_eq_false_iff_ne]; omega
  have c1 := hU.cnt
  clear h h2 hc hU hX hk
  generalize kd s e m = K at *
  go_enter Try.func23, Try.ntmps23
  go_wp2_with fail
  refine (hbits.out _).mono ?_
  rintro r w' ⟨rfl, rfl⟩
  go_wp2_with fail
  refine (hkind.out _).mono ?_
  rintro r w' ⟨rfl, rfl⟩
  generalize w.alloc (.cells #[.bool false, .slice none 0 0, .slice none 0 0] 24) = W at *
  clear hkind hbits
  go_wp2_with fail
  refine (rOf_any c _ (by omega)).mono ?_
  rintro r w1 ⟨A1, x1, rfl, ho1, hb1⟩
  have r1 := ho1.row.lower (Nat.zero_le _)
  have k1 := ho1.capLe
  have l1 : (lim c).length ≤ 2 := lim_len_lt (by omega)
  replace k := k.below hb1
  replace HB := HB.trans (hb1.mono HB.size)
  clear ho1 hb1 ho
  go_wp2_with fail
  refine (rShift_any A1 _ x1 _ _ _ (by omega) k1 r1 (by omega)).mono ?_
  rintro r w2 ⟨A2, x2, rfl, ho2, hb2⟩
  rw [HX.out] at ho2 ⊢
  have r2 := ho2.row.lower (Nat.zero_le _)
  have k2 := ho2.capLe
  replace k := k.below hb2
  replace HB := HB.trans (hb2.mono HB.size)
  clear ho2 hb2 r1 k1 l1
  go_wp2_with fail
  have r3 := one_row w2 0 (Nat.zero_le _)
  have hbn := (Below.refl w2.heap.size w2).alloc (Nat.le_refl _) (.cells #[.int .u32 1] 25)
  replace r2 := r2.below hbn
  replace k := k.below hbn
  replace HB := HB.trans (hbn.mono HB.size)
  refine (rOf_n s A2 _ _ 1 x2 1 X 1 _ [1] _ _ (val_lim _) rfl (by omega) (by omega) k2 (Nat.le_refl _) r2 r3 HV.out).mono ?_
  rintro r w5 ⟨z, rfl, hz, hb5⟩
  have hs4 := k.lt
  replace k := k.below hb5
  have hz' := hz.lower (show w.heap.size + 1 ≤ _ from hs4)
  replace HB := HB.trans (hb5.mono HB.size)
  clear hb5 r2 r3 k2 l2 hz HV hbn hs4
  obtain ⟨q0, q1, q2, g0, g1, g2⟩ := k.facts
  go_wp2
  refine ret3t (fn := Try.f23) Try.results23 rfl rfl rfl (k.put _ _ _) ?_
  exact ⟨z, rfl, (hz'.put (by omega) _ _ _).lower (by omega), HB.trans (put3_below (Nat.le_refl _) _ _ _)⟩

set_option maxHeartbeats 1000000 in
theorem rFrom_small (u : Nat) (s : Bool) (e m : Nat) (w : World) (h : Parts u s e m) (h2 : e ≠ 2047) (h3 : e < 1075) (h4 : 0 < e) :
    Calls Try.prog 23 #[.float .f64 u] w fun r w' => ∃ z : Rv, r = .returned (.tuple #[.agg #[.bool z.s, .slice z.A z.n z.c, .slice z.B z.m z.d], .int .i64 0]) ∧ Rt w' w.heap.size z (frq s e m) ∧ Below w.heap.size w w' := by
  have hk := kd_num (s := s) (m := m) h2
  have hkind := Lib.hid (fun (w : World) => rKind_c u s e m w h)
  have hbits := Lib.hid (fun (w : World) => rBits64_c u s e m w h)
  have k := C3.new w (.bool false) (.slice none 0 0) (.slice none 0 0)
  have HB := (Below.refl w.heap.size w).alloc (Nat.le_refl _) (.cells #[.bool false, .slice none 0 0, .slice none 0 0] 24)
  have hsW : (w.alloc (.cells #[.bool false, .slice none 0 0, .slice none 0 0] 24)).heap.size = w.heap.size + 1 := by simp
  obtain ⟨c, hc⟩ : ∃ c, c = 4503599627370496 + m := ⟨_, rfl⟩
  have hU : Unit e m c ((e : Int) - 1 - 1074) := by rw [hc]; exact unit_high (by omega) (by have := h.exp; omega) h.frac
  have ho : bits BinOp.or IntKind.u64 (m : Int) 4503599627370496 = (c : Int) := by rw [hc]; exact or_lead' h.frac
  obtain ⟨X, hX⟩ : ∃ X, X = 1 * 2 ^ (-((e : Int) - 1 - 1074)).toNat := ⟨_, rfl⟩
  have he := h.exp
  have HV : Hid (rn s c X = frq s e m) := by
    show _ = _
    rw [hX, ← hU.val s, show ((e : Int) - 1 - 1074).toNat = 0 by omega, Nat.pow_zero, Nat.mul_one]
  have HX : Hid (sh 1 (1075 - (e : Int)) = X) := by
    show _ = _
    rw [sh_up (by omega) (by omega), hX]
    congr 2
    omega
  have l2 : (lim X).length ≤ 131 := by rw [hX]; exact (Bd.shl (p := 2) (show 1 < 4294967296 ^ 2 by omega) (by omega)).len
  have e1 : ((kd s e m : Int) == 5) = false := by rw [beq_eq_false_iff_ne]; omega
  have e2 : ((kd s e m : Int) == 3) = false := by rw [beq_eq_false_iff_ne]; omega
  have e3 : ((kd s e m : Int) == 4) = false := by rw [beq_eq_false_iff_ne]; omega
  have c1 := hU.cnt
  clear h h2 hc hU hX hk
  generalize kd s e m = K at *
  go_enter Try.func23, Try.ntmps23
  go_wp2_with fail
  refine (hbits.out _).mono ?_
  rintro r w' ⟨rfl, rfl⟩
  go_wp2_with fail
  refine (hkind.out _).mono ?_
  rintro r w' ⟨rfl, rfl⟩
  generalize w.alloc (.cells #[.bool false, .slice none 0 0, .slice none 0 0] 24) = W at *
  clear hkind hbits
  go_wp2_with fail
  refine (rOf_any c _ (by omega)).mono ?_
  rintro r w1 ⟨A1, x1, rfl, ho1, hb1⟩
  have r1 := ho1.row.lower (Nat.zero_le _)
  have k1 := ho1.capLe
  have l1 : (lim c).length ≤ 2 := lim_len_lt (by omega)
  replace k := k.below hb1
  replace HB := HB.trans (hb1.mono HB.size)
  clear ho1 hb1 ho
  go_wp2_with fail
  have rl := one_row w1 0 (Nat.zero_le _)
  have hbn := (Below.refl w1.heap.size w1).alloc (Nat.le_refl _) (.cells #[.int .u32 1] 25)
  replace r1 := r1.below hbn
  replace k := k.below hbn
  replace HB := HB.trans (hbn.mono HB.size)
  refine (rShift_any _ 1 1 [1] _ _ (by omega) (Nat.le_refl _) rl (by omega)).mono ?_
  rintro r w2 ⟨A2, x2, rfl, ho2, hb2⟩
  rw [show val [1] = 1 from rfl, HX.out] at ho2 ⊢
  have r2 := ho2.row.lower (Nat.zero_le _)
  have k2 := ho2.capLe
  replace k := k.below hb2
  replace r1 := r1.below hb2
  replace HB := HB.trans (hb2.mono HB.size)
  clear ho2 hb2 rl
  go_wp2_with fail
  refine (rOf_n s A1 A2 _ _ x1 x2 c X _ _ _ _ (val_lim _) (val_lim _) (by omega) (by omega) k1 k2 r1 r2 HV.out).mono ?_
  rintro r w5 ⟨z, rfl, hz, hb5⟩
  have hs4 := k.lt
  replace k := k.below hb5
  have hz' := hz.lower (show w.heap.size + 1 ≤ _ from hs4)
  replace HB := HB.trans (hb5.mono HB.size)
  clear hb5 r1 r2 k1 k2 l1 l2 hz HV hbn hs4
  obtain ⟨q0, q1, q2, g0, g1, g2⟩ := k.facts
  go_wp2
  refine ret3t (fn := Try.f23) Try.results23 rfl rfl rfl (k.put _ _ _) ?_
  exact ⟨z, rfl, (hz'.put (by omega) _ _ _).lower (by omega), HB.trans (put3_below (Nat.le_refl _) _ _ _)⟩

set_option maxHeartbeats 1000000 in
theorem rFrom_least (u : Nat) (s : Bool) (e m : Nat) (w : World) (h : Parts u s e m) (h2 : e ≠ 2047) (h3 : e = 0) :
    Calls Try.prog 23 #[.float .f64 u] w fun r w' => ∃ z : Rv, r = .returned (.tuple #[.agg #[.bool z.s, .slice z.A z.n z.c, .slice z.B z.m z.d], .int .i64 0]) ∧ Rt w' w.heap.size z (frq s e m) ∧ Below w.heap.size w w' := by
  have hk := kd_num (s := s) (m := m) h2
  have hkind := Lib.hid (fun (w : World) => rKind_c u s e m w h)
  have hbits := Lib.hid (fun (w : World) => rBits64_c u s e m w h)
  have k := C3.new w (.bool false) (.slice none 0 0) (.slice none 0 0)
  have HB := (Below.refl w.heap.size w).alloc (Nat.le_refl _) (.cells #[.bool false, .slice none 0 0, .slice none 0 0] 24)
  have hsW : (w.alloc (.cells #[.bool false, .slice none 0 0, .slice none 0 0] 24)).heap.size = w.heap.size + 1 := by simp
  have hU : Unit e m m (-1074) := by rw [h3]; exact unit_low h.frac
  obtain ⟨X, hX⟩ : ∃ X, X = 1 * 2 ^ (-(-1074 : Int)).toNat := ⟨_, rfl⟩
  have he := h.exp
  have h4 : e < 1 := by omega
  have HV : Hid (rn s m X = frq s e m) := by
    show _ = _
    rw [hX, ← hU.val s, show (-1074 : Int).toNat = 0 by omega, Nat.pow_zero, Nat.mul_one]
  have HX : Hid (sh 1 1074 = X) := by
    show _ = _
    rw [sh_up (by omega) (by omega), hX]
    congr 2
  have l2 : (lim X).length ≤ 131 := by rw [hX]; exact (Bd.shl (p := 2) (show 1 < 4294967296 ^ 2 by omega) (by omega)).len
  have e1 : ((kd s e m : Int) == 5) = false := by rw [beq_eq_false_iff_ne]; omega
  have e2 : ((kd s e m : Int) == 3) = false := by rw [beq_eq_false_iff_ne]; omega
  have e3 : ((kd s e m : Int) == 4) = false := by rw [beq_eq_false_iff_ne]; omega
  have c1 := hU.cnt
  clear h h2 hU hX hk h3
  generalize kd s e m = K at *
  go_enter Try.func23, Try.ntmps23
  go_wp2_with fail
  refine (hbits.out _).mono ?_
  rintro r w' ⟨rfl, rfl⟩
  go_wp2_with fail
  refine (hkind.out _).mono ?_
  rintro r w' ⟨rfl, rfl⟩
  generalize w.alloc (.cells #[.bool false, .slice none 0 0, .slice none 0 0] 24) = W at *
  clear hkind hbits
  go_wp2_with fail
  refine (rOf_any m _ (by omega)).mono ?_
  rintro r w1 ⟨A1, x1, rfl, ho1, hb1⟩
  have r1 := ho1.row.lower (Nat.zero_le _)
  have k1 := ho1.capLe
  have l1 : (lim m).length ≤ 2 := lim_len_lt (by omega)
  replace k := k.below hb1
  replace HB := HB.trans (hb1.mono HB.size)
  clear ho1 hb1
  go_wp2_with fail
  have rl := one_row w1 0 (Nat.zero_le _)
  have hbn := (Below.refl w1.heap.size w1).alloc (Nat.le_refl _) (.cells #[.int .u32 1] 25)
  replace r1 := r1.below hbn
  replace k := k.below hbn
  replace HB := HB.trans (hbn.mono HB.size)
  refine (rShift_any _ 1 1 [1] _ _ (by omega) (Nat.le_refl _) rl (by omega)).mono ?_
  rintro r w2 ⟨A2, x2, rfl, ho2, hb2⟩
  rw [show val [1] = 1 from rfl, HX.out] at ho2 ⊢
  have r2 := ho2.row.lower (Nat.zero_le _)
  have k2 := ho2.capLe
  replace k := k.below hb2
  replace r1 := r1.below hb2
  replace HB := HB.trans (hb2.mono HB.size)
  clear ho2 hb2 rl
  go_wp2_with fail
  refine (rOf_n s A1 A2 _ _ x1 x2 m X _ _ _ _ (val_lim _) (val_lim _) (by omega) (by omega) k1 k2 r1 r2 HV.out).mono ?_
  rintro r w5 ⟨z, rfl, hz, hb5⟩
  have hs4 := k.lt
  replace k := k.below hb5
  have hz' := hz.lower (show w.heap.size + 1 ≤ _ from hs4)
  replace HB := HB.trans (hb5.mono HB.size)
  clear hb5 r1 r2 k1 k2 l1 l2 hz HV hbn hs4
  obtain ⟨q0, q1, q2, g0, g1, g2⟩ := k.facts
  go_wp2
  refine ret3t (fn := Try.f23) Try.results23 rfl rfl rfl (k.put _ _ _) ?_
  exact ⟨z, rfl, (hz'.put (by omega) _ _ _).lower (by omega), HB.trans (put3_below (Nat.le_refl _) _ _ _)⟩

theorem rFrom_num (u : Nat) (s : Bool) (e m : Nat) (w : World) (h : Parts u s e m) (h2 : e ≠ 2047) :
    Calls Try.prog 23 #[.float .f64 u] w fun r w' => ∃ z : Rv, r = .returned (.tuple #[.agg #[.bool z.s, .slice z.A z.n z.c, .slice z.B z.m z.d], .int .i64 0]) ∧ Rt w' w.heap.size z (frq s e m) ∧ Below w.heap.size w w' := by
  by_cases h3 : 1075 ≤ e
  · exact rFrom_great u s e m w h h2 h3
  · by_cases h4 : e = 0
    · exact rFrom_least u s e m w h h2 h4
    · exact rFrom_small u s e m w h h2 (by omega) (by omega)
end Go.Proofs.Ytplpkojikgeamaa

namespace Go.Proofs.Ytplpkojikgeamaa
set_option maxRecDepth 20000
open Go.RowKit

/-- The bits of an infinity. -/
def infb (s : Bool) : Nat := if s then 18442240474082181120 else 9218868437227405312
theorem lim_first {q : Nat} (h : q ≠ 0) : dg (lim q) 0 = q % 4294967296 := by rw [lim_pos h, dg_zero]

end Go.Proofs.Ytplpkojikgeamaa

namespace Go.Proofs.Ytplpkojikgeamaa
set_option maxRecDepth 20000
open Go.RowKit

theorem tof_ne {r : Rat} (h : r ≠ 0) : tof r = if dbl r.num.natAbs r.den = 0 then 0 else (if decide (r.num < 0) then 9223372036854775808 else 0) + dbl r.num.natAbs r.den := by
  unfold tof tf
  rw [if_neg]
  intro h1
  rcases h1 with h1 | h1
  · exact num_ne h (by omega)
  · exact r.den_nz h1

theorem rShift_v (X : Nat) (A : Option Addr) (n c : Nat) (a : List Nat) (i : Int) (w : World) (hX : sh (val a) i = X) (hn : n ≤ 100000) (hcn : n ≤ c) (ha : Row w 0 A n a) (hi : -9223372036854775808 ≤ i ∧ i ≤ 9223372036854775807) :
    Calls Try.prog 56 #[.slice A n c, .int .i64 i] w fun e w' => ∃ A2 c2, e = .returned (.slice A2 (lim X).length c2) ∧ Row w' 0 A2 (lim X).length (lim X) ∧ (lim X).length ≤ c2 ∧ Below w.heap.size w w' := by
  subst hX
  refine (rShift_any A n c a i w hn hcn ha hi).mono ?_
  rintro e w' ⟨A2, c2, he, ho, hb⟩
  subst he
  exact ⟨A2, c2, rfl, ho.row.lower (Nat.zero_le _), ho.capLe, hb⟩
theorem rCmp_w (X Y : Nat) (A B : Option Addr) (n m c d : Nat) (a b : List Nat) (w : World) (hx : val a = X) (hy : val b = Y) (hn : n ≤ 1000000) (hm : m ≤ 1000000) (hcn : n ≤ c) (hdm : m ≤ d) (ha : Row w 0 A n a) (hb : Row w 0 B m b) :
    Calls Try.prog 45 #[.slice A n c, .slice B m d] w fun e w' => e = .returned (.int .i64 (cmpI X Y)) ∧ Below w.heap.size w w' := by
  subst hx hy; exact rCmp_any A B n m c d a b w hn hm hcn hdm ha hb

theorem rTo_v (C : Nat) (A : Option Addr) (n c : Nat) (a : List Nat) (w : World) (hx : val a = C) (hn : n ≤ 100000) (hcn : n ≤ c) (ha : Row w 0 A n a) (h2 : (lim C).length ≤ 2) :
    Calls Try.prog 63 #[.slice A n c] w fun e w' => e = .returned (.tuple #[.int .u64 (C : Nat), .bool true]) ∧ Below w.heap.size w w' := by
  subst hx; exact rTo_yes A n c a w hn hcn ha h2

theorem wrap_id {i : Int} (h : -9223372036854775808 ≤ i ∧ i ≤ 9223372036854775807) : IntKind.i64.wrap i = i := by
  rw [IntKind.wrap_i64]; omega

end Go.Proofs.Ytplpkojikgeamaa

namespace Go.Proofs.Ytplpkojikgeamaa
set_option maxRecDepth 20000
open Go.RowKit

set_option maxHeartbeats 400000 in
theorem limbs4_yes (A A' : Option Addr) (n c c' : Nat) (l : List Nat) (w : World) (hn : n ≤ 1000000) (hr : Row w 0 A n l) (hr' : Row w 0 A' n l) :
    Calls Try.prog 80 #[.slice A n c, .slice A' n c'] w fun e w' => e = .returned (.bool true) ∧ ∃ q, w' = w.drewN q := by
  go_enter Try.func80, Try.ntmps80
  go_wp2
  go_loopw [5] (fun i wr => ∃ k q : Nat, k ≤ n ∧ i = .int .i64 k ∧ wr = w.drewN q) (fun i _ => n - (intOf i).toNat)
  case atStart => exact ⟨0, 0, Nat.zero_le _, rfl, rfl⟩
  case round =>
    obtain ⟨k, q, hk, rfl, rfl⟩ := hrel
    by_cases h0 : k < n
    · obtain ⟨b, off, rfl, h1, h2, hc⟩ := hr.mem (by omega)
      obtain ⟨b', off', rfl, h1', h2', hc'⟩ := hr'.mem (by omega)
      have hc0 := hc k h0
      have hc0' := hc' k h0
      clear hc hc' hr hr'
      generalize dg l k = x at *
      go_wp2
      go_quiet (fail)
      go_wp2
      go_roundw
      case rel => exact ⟨k + 1, _, by omega, by go_num, rfl⟩
      case measure => simp [intOf]; omega
    · clear hr hr'
      go_wp2
      go_ret
      exact ⟨rfl, q, rfl⟩

theorem limbs4_eq (A A' : Option Addr) (n n' c c' : Nat) (l l' : List Nat) (w : World) (hn : n ≤ 1000000) (hr : Row w 0 A n l) (hr' : Row w 0 A' n' l') (hl : l = l') :
    Calls Try.prog 80 #[.slice A n c, .slice A' n' c'] w fun e w' => e = .returned (.bool true) ∧ Below w.heap.size w w' := by
  subst hl
  have e : n' = n := by rw [← hr.len, ← hr'.len]
  subst e
  refine (limbs4_yes A A' n' c c' l w hn hr hr').mono ?_
  rintro e w' ⟨rfl, q, rfl⟩
  exact ⟨rfl, rfl, rfl, rfl, Nat.le_refl _, fun _ _ => rfl⟩

set_option maxHeartbeats 800000 in
/-- Two normal readings of one number. -/
theorem one4_yes (v u : Rv) (r s : Rat) (w : World) (lo lo' : Nat) (hv : Rt w lo v r) (hu : Rt w lo' u s) (h : r = s) (hn : v.n ≤ 100000) (hm : v.m ≤ 100000) :
    Calls Try.prog 52 #[.agg #[.bool v.s, .slice v.A v.n v.c, .slice v.B v.m v.d], .agg #[.bool u.s, .slice u.A u.n u.c, .slice u.B u.m u.d]] w fun e w' => e = .returned (.bool true) ∧ Below w.heap.size w w' := by
  subst h
  obtain ⟨h0, h1, h2, h3, h4, h5, h6⟩ := hv
  obtain ⟨g0, g1, g2, g3, g4, g5, g6⟩ := hu
  have hss : v.s = u.s := by rw [h0, g0]
  have hsb : (v.s == u.s) = true := by rw [hss]; simp
  clear h0 g0 h1 g1 h4 g4 hss
  replace h3 := h3.lower (Nat.zero_le lo)
  replace g3 := g3.lower (Nat.zero_le lo')
  replace h6 := h6.lower (Nat.zero_le lo)
  replace g6 := g6.lower (Nat.zero_le lo')
  go_enter Try.func52, Try.ntmps52
  go_wp2_with fail
  generalize hW : ((w.alloc (.cells #[.bool v.s, .slice v.A v.n v.c, .slice v.B v.m v.d] 24)).alloc (.cells #[.bool u.s, .slice u.A u.n u.c, .slice u.B u.m u.d] 24)) = W
  obtain ⟨ka, kb, HW, hsW⟩ := open2 w v u W hW
  clear hW
  refine (limbs4_eq v.A u.A v.n u.n v.c u.c _ _ _ (by omega) (h3.below HW) (g3.below HW) rfl).mono ?_
  rintro e w1 ⟨rfl, hb1⟩
  replace ka := ka.below hb1
  replace kb := kb.below hb1
  replace HW := HW.trans (hb1.mono (by omega))
  obtain ⟨a0, a1, a2, a3, a4, a5⟩ := ka.facts
  obtain ⟨b0, b1, b2, b3, b4, b5⟩ := kb.facts
  have hs1 := hb1.size
  clear hb1
  go_wp2_with fail
  refine (limbs4_eq v.B u.B v.m u.m v.d u.d _ _ _ (by omega) (h6.below HW) (g6.below HW) rfl).mono ?_
  rintro e w2 ⟨rfl, hb2⟩
  replace HW := HW.trans (hb2.mono (by omega))
  clear hb2
  go_wp2
  go_ret
  exact ⟨rfl, HW⟩


set_option maxHeartbeats 1600000 in
theorem big4_any (f : Nat → Rv) (g k : Nat) (w : World) (hk : k ≤ 10) (hlen : ∀ i, i < k → (f i).n ≤ 1000000000000000 ∧ (f i).m ≤ 1000000000000000)
    (hc : ∀ i, i < k → w.cell? ⟨g, i * 3 + 1, none⟩ = some (.slice (f i).A (f i).n (f i).c) ∧ w.cell? ⟨g, i * 3 + 2, none⟩ = some (.slice (f i).B (f i).m (f i).d)) :
    Calls Try.prog 18 #[.slice (some ⟨g, 0, none⟩) k k] w fun e w' => e = .returned (.bool (decide (16 < tot f k))) ∧ Below w.heap.size w w' := by
  have HC := Lib.hid hc
  have HL := Lib.hid hlen
  clear hc hlen
  go_enter Try.func18, Try.ntmps18
  go_wp2
  go_loopw [3, 4] (fun nv iv wr => ∃ i q : Nat, i ≤ k ∧ nv = .int .i64 (tot f i) ∧ iv = .int .i64 i ∧ wr = w.drewN q ∧ tot f i ≤ 16) (fun _ iv _ => k - (intOf iv).toNat)
  case atStart => exact ⟨0, 0, Nat.zero_le _, rfl, rfl, rfl, by simp [tot]⟩
  case round =>
    obtain ⟨i, q, hi, rfl, rfl, rfl, ht⟩ := hrel
    by_cases h0 : i < k
    · obtain ⟨hc1, hc2⟩ := HC.out i h0
      obtain ⟨hl1, hl2⟩ := HL.out i h0
      have ht' := tot_succ f i
      have hmon := Lib.hid (tot_mono f (show i + 1 ≤ k from h0))
      generalize (f i).n = n1 at *
      generalize (f i).m = m1 at *
      generalize (f i).c = c1 at *
      generalize (f i).d = d1 at *
      have hT : Hid (tot f (i + 1) = tot f i + n1 + m1) := ht'
      clear ht'
      generalize htt : tot f i = t at *
      have HT := Lib.hid htt
      clear htt
      go_wp2
      go_quiet (fail)
      go_wp2
      · go_ret
        refine ⟨?_, below_drewN' _ _ _⟩
        have h1 := hmon.out
        have h2 := hT.out
        rw [decide_eq_true (show 16 < tot f k by omega)]; rfl
      · have h2 := hT.out
        refine ⟨⟨i + 1, _, by omega, ?_, by simp, rfl, by omega⟩, by simp [intOf]; omega⟩
        rw [h2]; simp
    · have e : i = k := by omega
      have HE := Lib.hid e
      have HT := Lib.hid ht
      clear e ht
      go_wp2
      go_ret
      refine ⟨?_, below_drewN' _ _ _⟩
      have h1 := HT.out
      rw [HE.out] at h1
      rw [decide_eq_false (show ¬ 16 < tot f k by omega)]; rfl

/-- Is the exponent looked at? -/
def sm (e : Nat) : Bool := decide (e = 2047 ∨ (900 < e ∧ e < 1200) ∨ e = 0)
set_option maxHeartbeats 800000 in
theorem small4_c (u : Nat) (s : Bool) (e m : Nat) (w : World) (h : Parts u s e m) :
    Calls Try.prog 20 #[.float .f64 u] w fun r w' => r = .returned (.bool (sm e)) ∧ w = w' := by
  have hbits := Lib.hid (fun (w : World) => rBits64_c u s e m w h)
  clear h
  unfold sm
  by_cases h1 : e = 2047
  · have f1 : ((e : Int) == 2047) = true := by rw [beq_iff_eq]; omega
    rw [decide_eq_true (.inl h1)]
    clear h1
    go_enter Try.func20, Try.ntmps20
    go_wp2_with fail
    refine (hbits.out _).mono ?_
    rintro r w' ⟨rfl, rfl⟩
    go_wp2
    go_ret
    exact ⟨rfl, rfl⟩
  · have f1 : ((e : Int) == 2047) = false := by rw [beq_eq_false_iff_ne]; omega
    by_cases h2 : e = 0
    · have f2 : ((e : Int) == 0) = true := by rw [beq_iff_eq]; omega
      have f3 : (e : Int) ≤ 900 := by omega
      rw [decide_eq_true (.inr (.inr h2))]
      clear h1 h2
      go_enter Try.func20, Try.ntmps20
      go_wp2_with fail
      refine (hbits.out _).mono ?_
      rintro r w' ⟨rfl, rfl⟩
      go_wp2
      go_ret
      exact ⟨rfl, rfl⟩
    · have f2 : ((e : Int) == 0) = false := by rw [beq_eq_false_iff_ne]; omega
      by_cases h3 : 900 < e
      · have f3 : 900 < (e : Int) := by omega
        by_cases h4 : e < 1200
        · have f4 : (e : Int) < 1200 := by omega
          rw [decide_eq_true (.inr (.inl ⟨h3, h4⟩))]
          clear h1 h2 h3 h4
          go_enter Try.func20, Try.ntmps20
          go_wp2_with fail
          refine (hbits.out _).mono ?_
          rintro r w' ⟨rfl, rfl⟩
          go_wp2
          go_ret
          exact ⟨rfl, rfl⟩
        · have f4 : 1200 ≤ (e : Int) := by omega
          rw [decide_eq_false (by omega)]
          clear h1 h2 h3 h4
          go_enter Try.func20, Try.ntmps20
          go_wp2_with fail
          refine (hbits.out _).mono ?_
          rintro r w' ⟨rfl, rfl⟩
          go_wp2
          go_ret
          refine ⟨?_, rfl⟩
          show Ending.returned (.bool (decide ((e : Int) < 1200))) = _
          rw [decide_eq_false (by omega)]
      · have f3 : (e : Int) ≤ 900 := by omega
        rw [decide_eq_false (by omega)]
        clear h1 h2 h3
        go_enter Try.func20, Try.ntmps20
        go_wp2_with fail
        refine (hbits.out _).mono ?_
        rintro r w' ⟨rfl, rfl⟩
        go_wp2
        go_ret
        exact ⟨rfl, rfl⟩

theorem parts_half : Parts 4602678819172646912 false 1022 0 := ⟨by decide, by omega, by omega⟩
theorem parts_nan : Parts 9221120237041090561 false 2047 2251799813685249 := ⟨by decide, by omega, by omega⟩
theorem parts_mz : Parts 9223372036854775808 true 0 0 := ⟨by decide, by omega, by omega⟩
theorem frq_half : frq false 1022 0 = rn false 1 2 := by
  have h := (unit_high (e := 1022) (m := 0) (by omega) (by omega) (by omega)).val false
  rw [← h, show (((1022 : Nat) : Int) - 1 - 1074).toNat = 0 by omega, show (-(((1022 : Nat) : Int) - 1 - 1074)).toNat = 53 by omega]
  exact rn_scale false (k := 4503599627370496) 1 2 (by omega)

set_option maxHeartbeats 1600000 in
theorem known4_any (w : World) : Calls Try.prog 22 #[] w fun e w' => e = .returned (.bool true) ∧ Below w.heap.size w w' := by
  have hfr := fun n => frombits64 n
  have h1 := Lib.hid (fun (w : World) => From_num _ _ _ _ w parts_half (by omega))
  have h2 : Hid (∀ w : World, Calls Try.prog 51 #[.float .f64 9221120237041090561] w fun r w' => r = .returned (.tuple #[.agg #[.bool false, .slice none 0 0, .slice none 0 0], .int .i64 16]) ∧ Below w.heap.size w w') := by
    intro w
    have h := From_err _ _ _ _ w parts_nan rfl
    rw [if_pos (by omega)] at h
    exact h
  have h3 : Hid (∀ w : World, Calls Try.prog 21 #[.float .f64 9223372036854775808] w fun r w' => r = .returned (.int .i64 2) ∧ w = w') := by
    intro w
    have h := Kind_c _ _ _ _ w parts_mz
    rw [show kd true 0 0 = 2 from rfl] at h
    exact h
  go_enter Try.func22, Try.ntmps22
  go_wp2_with fail
  refine (h1.out _).mono ?_
  rintro e w1 ⟨z, rfl, hz, hb1⟩
  rw [frq_half] at hz
  have k := C3.new w1 (.bool z.s) (.slice z.A z.n z.c) (.slice z.B z.m z.d)
  have hb2 := (Below.refl w1.heap.size w1).alloc (Nat.le_refl _) (.cells #[.bool z.s, .slice z.A z.n z.c, .slice z.B z.m z.d] 24)
  replace hz := hz.below hb2
  have HB := hb1.trans (hb2.mono hb1.size)
  clear hb1 hb2
  go_wp2_with fail
  refine (h2.out _).mono ?_
  rintro e w2 ⟨rfl, hb3⟩
  replace hz := hz.below hb3
  replace k := k.below hb3
  replace HB := HB.trans (hb3.mono HB.size)
  have hb4 := (Below.refl w2.heap.size w2).alloc (Nat.le_refl _) (.cells #[.bool false, .slice none 0 0, .slice none 0 0] 24)
  replace hz := hz.below hb4
  replace k := k.below hb4
  replace HB := HB.trans (hb4.mono HB.size)
  clear hb3 hb4
  have hzs := hz.rw (Sz.lit (x := 1) (y := 2) (by omega) (by omega))
  have hzn := hzs.numLe
  have hzm := hzs.denLe
  obtain ⟨q0, q1, q2, g0, g1, g2⟩ := k.facts
  go_wp2_with fail
  have e3 : (w2.alloc (.cells #[.bool false, .slice none 0 0, .slice none 0 0] 24)).heap.size = w2.heap.size + 1 := by simp
  try simp only [← e3]
  generalize w2.alloc (.cells #[.bool false, .slice none 0 0, .slice none 0 0] 24) = w3 at *
  clear e3
  have r5 : Row ((w3.alloc (.cells #[.int .u32 1] 25)).alloc (.cells #[.int .u32 2] 25)) 0 (some ⟨w3.heap.size, 0, none⟩) 1 [1] := (Row.lit w3 1 1 rfl (by omega)).alloc _
  have e5 : (w3.alloc (.cells #[.int .u32 1] 25)).heap.size = w3.heap.size + 1 := by simp
  have r6 : Row ((w3.alloc (.cells #[.int .u32 1] 25)).alloc (.cells #[.int .u32 2] 25)) 0 (some ⟨w3.heap.size + 1, 0, none⟩) 1 [2] := by
    have := Row.lit (w3.alloc (.cells #[.int .u32 1] 25)) 2 2 rfl (by omega)
    rw [e5] at this; exact this
  have HB5 := (HB.alloc HB.size (.cells #[.int .u32 1] 25)).alloc (by have := HB.size; simp; omega) (.cells #[.int .u32 2] 25)
  have hz5 := (hz.below ((Below.refl _ _).alloc (Nat.le_refl _) (.cells #[.int .u32 1] 25))).below ((Below.refl _ _).alloc (Nat.le_refl _) (.cells #[.int .u32 2] 25))
  have v5 := Rt.lit (w := (w3.alloc (.cells #[.int .u32 1] 25)).alloc (.cells #[.int .u32 2] 25)) (by omega) (by omega) (by omega) (by omega) (by decide) (Nat.le_refl _) (Nat.le_refl _) r5 r6
  refine (one4_yes z ⟨false, some ⟨w3.heap.size, 0, none⟩, 1, 1, some ⟨w3.heap.size + 1, 0, none⟩, 1, 1⟩ _ _ _ _ _ hz5 v5 rfl (by omega) (by omega)).mono ?_
  rintro e w6 ⟨rfl, hb6⟩
  replace HB := HB5.trans (hb6.mono HB5.size)
  clear hb6 HB5 v5 r5 r6 hz hz5 hzs e5 k q0 q1 q2 g0 g1 g2
  go_wp2_with fail
  refine (h3.out _).mono ?_
  rintro e w7 ⟨rfl, rfl⟩
  go_wp2
  go_ret
  exact ⟨rfl, HB⟩
end Go.Proofs.Ytplpkojikgeamaa

namespace Go.Proofs.Ytplpkojikgeamaa
set_option maxRecDepth 20000
open Go.RowKit

theorem unit_any {e m : Nat} (he : e < 2047) (hm : m < 4503599627370496) : ∃ c p, Unit e m c p := by
  by_cases h : e = 0
  · subst h; exact ⟨_, _, unit_low hm⟩
  · exact ⟨_, _, unit_high h he hm⟩
theorem frq_sz {s : Bool} {e m : Nat} (he : e < 2047) (hm : m < 4503599627370496) : Sz (frq s e m) 40 := by
  obtain ⟨c, p, hU⟩ := unit_any he hm
  have h1 := hU.lo
  have h2 := hU.hi
  have h3 := hU.cnt
  have bc : Bd c 2 := by show c < 4294967296 ^ 2; omega
  have b1 : Bd 1 1 := by show 1 < 4294967296 ^ 1; omega
  exact Sz.ofRn (hU.val s) ((bc.mul (Bd.pow (k := p.toNat) (p := 31) (by omega))).more (by omega)) ((b1.mul (Bd.pow (k := (-p).toNat) (p := 34) (by omega))).more (by omega)) (by omega)
theorem worth_pos {u : Nat} (h : u ≠ 0) : worth u ≠ 0 := by
  have := worth_lt (show 0 < u by omega)
  omega
theorem tof_frq {u : Nat} {s : Bool} {e m : Nat} (h : Parts u s e m) (he : e ≠ 2047) : tof (frq s e m) = if kd s e m = 2 then 0 else u := by
  have h1 := h.exp
  have h2 := h.frac
  have h3 := h.eq
  unfold frq
  rw [tof_rn]
  have hp : (2 : Nat) ^ el ≠ 0 := by have := Nat.pow_pos (n := el) (show 0 < 2 by omega); omega
  by_cases h0 : e = 0 ∧ m = 0
  · obtain ⟨rfl, rfl⟩ := h0
    have hw : worth (4503599627370496 * 0 + 0) = 0 := rfl
    unfold tf
    rw [if_pos (.inl hw)]
    have hk0 : kd s 0 0 = if s then 2 else 1 := by unfold kd; rw [if_neg (by decide), if_pos ⟨rfl, rfl⟩]
    rw [hk0]
    cases s
    · exact h3.symm
    · rfl
  · have hv : 4503599627370496 * e + m ≠ 0 := by omega
    have hlt : 4503599627370496 * e + m < 9218868437227405312 := by omega
    have hk : kd s e m = 0 := by unfold kd; rw [if_neg he, if_neg h0]
    rw [hk, if_neg (by decide)]
    unfold tf
    rw [if_neg (fun h => h.elim (worth_pos hv) hp), dbl_worth hv hlt, if_neg hv]
    exact h3.symm
end Go.Proofs.Ytplpkojikgeamaa
