/-
  The document's rationals: a whole number.
  A number of 64 bits as a rational, exactly: the program's way, the document's way.
  The document's numbers of 64 bits: exactly as a rational.
  The document's nearest number of 64 bits, first part: near, Inf, sign.
  The document's nearest number of 64 bits.
  The law's own helpers: limbs, one, big, small, shifted, known.
  What the laws of numbers of 64 bits stand on: sizes, a number back, its sign.
-/
import Derived.Test.YtmehlbdlllkcgaaRef1
import Derived.Test.YtmehlbdlllkcgaaTo
import Derived.Test.YtmehlbdlllkcgaaFltP
import Derived.Test.YtmehlbdlllkcgaaRatP
import Derived.Test.YtmehlbdlllkcgaaLeaf
import Derived.Test.YtmehlbdlllkcgaaLong
namespace Go.Proofs.Ytmehlbdlllkcgaa
set_option maxRecDepth 20000
open Go.RowKit

theorem one_row (w : World) (lo : Nat) (h : lo ≤ w.heap.size) : Row (w.alloc (.cells #[.int .u32 1] 25)) lo (some ⟨w.heap.size, 0, none⟩) 1 [1] := Row.one rfl (by omega) h

set_option maxHeartbeats 1600000 in
theorem rInt_true (x : Nat) (i : Int) (w : World) (hi : -9223372036854775808 ≤ i ∧ i ≤ 9223372036854775807) (hx : i = -(x : Int)) (h : i < 0) :
    Calls Try.prog 44 #[.int .i64 i] w fun e w' => ∃ z : Rv, e = .returned (.agg #[.bool z.s, .slice z.A z.n z.c, .slice z.B z.m z.d]) ∧ Rt w' w.heap.size z (i : Rat) ∧ Below w.heap.size w w' := by
  have hw : IntKind.u64.wrap (-IntKind.u64.wrap (-(x : Int))) = (x : Int) := by
    have e64 : ∀ n : Int, IntKind.u64.wrap n = n % 18446744073709551616 := fun _ => rfl
    rw [e64, e64]; omega
  have u_ := h
  clear u_
  have hri : rn true x 1 = (i : Rat) := rn_int_eq _ _ _ (by simp [hx])
  have HR := Lib.hid hri
  clear hri
  have hl1 : (lim x).length ≤ 2 := lim_len_lt (by omega)
  go_enter Try.func44, Try.ntmps44
  go_wp2_with fail
  refine (rOf_any x _ (by omega)).mono ?_
  rintro e w1 ⟨A, c, rfl, ho, hb1⟩
  have hr1 := ho.row.lower (Nat.zero_le _)
  have hc1 := ho.capLe
  have k := (C3.new w (.bool false) (.slice none 0 0) (.slice none 0 0)).at hb1 (by simp)
  have hk1 := k.lt
  have HB := (((Below.refl w.heap.size w).alloc (Nat.le_refl _) (.cells #[.bool false, .slice none 0 0, .slice none 0 0] 24)).trans (hb1.mono (by simp)))
  clear ho hb1
  go_wp2_with fail
  have hr2 := one_row w1 0 (Nat.zero_le _)
  have hbn := (Below.refl w1.heap.size w1).alloc (Nat.le_refl _) (.cells #[.int .u32 1] 25)
  replace hr1 := hr1.below hbn
  replace k := k.below hbn
  replace HB := HB.trans (hbn.mono HB.size)
  refine (rOf_n true A _ _ 1 c 1 x 1 _ [1] (i : Rat) _ (val_lim _) rfl (by omega) (by omega) hc1 (Nat.le_refl _) hr1 hr2 HR.out).mono ?_
  rintro e w3 ⟨u, rfl, hu, hb3⟩
  have hs3 : w1.heap.size + 1 ≤ w3.heap.size := by have := hb3.size; simpa using this
  have hsz : w.heap.size < (w1.alloc (.cells #[.int .u32 1] 25)).heap.size := k.lt
  replace k := k.below hb3
  replace HB := HB.trans (hb3.mono HB.size)
  obtain ⟨q0, q1, q2, g0, g1, g2⟩ := k.facts
  clear hb3 hr1 hr2 hbn
  go_wp2
  refine ret3 (fn := Try.f44) Try.results44 rfl rfl k ?_
  exact ⟨u, rfl, (hu.put hsz _ _ _).lower (Nat.le_of_lt hsz), HB.trans (put3_below (Nat.le_refl _) _ _ _)⟩

set_option maxHeartbeats 1600000 in
theorem rInt_false (x : Nat) (i : Int) (w : World) (hi : -9223372036854775808 ≤ i ∧ i ≤ 9223372036854775807) (hx : i = (x : Int)) (h : ¬ i < 0) :
    Calls Try.prog 44 #[.int .i64 i] w fun e w' => ∃ z : Rv, e = .returned (.agg #[.bool z.s, .slice z.A z.n z.c, .slice z.B z.m z.d]) ∧ Rt w' w.heap.size z (i : Rat) ∧ Below w.heap.size w w' := by
  have u_ := h
  clear u_
  have hri : rn false x 1 = (i : Rat) := rn_int_eq _ _ _ (by simp [hx])
  have HR := Lib.hid hri
  clear hri
  have hl1 : (lim x).length ≤ 2 := lim_len_lt (by omega)
  go_enter Try.func44, Try.ntmps44
  go_wp2_with fail
  refine (rOf_any x _ (by omega)).mono ?_
  rintro e w1 ⟨A, c, rfl, ho, hb1⟩
  have hr1 := ho.row.lower (Nat.zero_le _)
  have hc1 := ho.capLe
  have k := (C3.new w (.bool false) (.slice none 0 0) (.slice none 0 0)).at hb1 (by simp)
  have hk1 := k.lt
  have HB := (((Below.refl w.heap.size w).alloc (Nat.le_refl _) (.cells #[.bool false, .slice none 0 0, .slice none 0 0] 24)).trans (hb1.mono (by simp)))
  clear ho hb1
  go_wp2_with fail
  have hr2 := one_row w1 0 (Nat.zero_le _)
  have hbn := (Below.refl w1.heap.size w1).alloc (Nat.le_refl _) (.cells #[.int .u32 1] 25)
  replace hr1 := hr1.below hbn
  replace k := k.below hbn
  replace HB := HB.trans (hbn.mono HB.size)
  refine (rOf_n false A _ _ 1 c 1 x 1 _ [1] (i : Rat) _ (val_lim _) rfl (by omega) (by omega) hc1 (Nat.le_refl _) hr1 hr2 HR.out).mono ?_
  rintro e w3 ⟨u, rfl, hu, hb3⟩
  have hs3 : w1.heap.size + 1 ≤ w3.heap.size := by have := hb3.size; simpa using this
  have hsz : w.heap.size < (w1.alloc (.cells #[.int .u32 1] 25)).heap.size := k.lt
  replace k := k.below hb3
  replace HB := HB.trans (hb3.mono HB.size)
  obtain ⟨q0, q1, q2, g0, g1, g2⟩ := k.facts
  clear hb3 hr1 hr2 hbn
  go_wp2
  refine ret3 (fn := Try.f44) Try.results44 rfl rfl k ?_
  exact ⟨u, rfl, (hu.put hsz _ _ _).lower (Nat.le_of_lt hsz), HB.trans (put3_below (Nat.le_refl _) _ _ _)⟩

theorem rInt_c (i : Int) (w : World) (hi : -9223372036854775808 ≤ i ∧ i ≤ 9223372036854775807) :
    Calls Try.prog 44 #[.int .i64 i] w fun e w' => ∃ z : Rv, e = .returned (.agg #[.bool z.s, .slice z.A z.n z.c, .slice z.B z.m z.d]) ∧ Rt w' w.heap.size z (i : Rat) ∧ Below w.heap.size w w' := by
  by_cases h : i < 0
  · exact rInt_true i.natAbs i w hi (by omega) h
  · exact rInt_false i.natAbs i w hi (by omega) h

end Go.Proofs.Ytmehlbdlllkcgaa

namespace Go.Proofs.Ytmehlbdlllkcgaa
set_option maxRecDepth 20000
open Go.RowKit

theorem rn_scale (s : Bool) {k : Nat} (x y : Nat) (hk : 0 < k) : rn s (k * x) (k * y) = rn s x y := by
  unfold rn
  have h := fun n : Int => Rat.mkRat_mul_left (n := n) (d := y) (show k ≠ 0 by omega)
  cases s
  · have := h (x : Int)
    rw [← Int.natCast_mul] at this
    exact this
  · have := h (-(x : Int))
    rw [Int.mul_neg, ← Int.natCast_mul] at this
    exact this

/-- The rational that a number of 64 bits is. -/
def frq (s : Bool) (e m : Nat) : Rat := rn s (worth (4503599627370496 * e + m)) (2 ^ el)

/-- How often which power of two. -/
structure Unit (e m c : Nat) (p : Int) : Prop where
  lo : -1074 ≤ p
  hi : p ≤ 971
  cnt : c < 9007199254740992
  val : ∀ s, rn s (c * 2 ^ p.toNat) (1 * 2 ^ (-p).toNat) = frq s e m
theorem unit_val {e m c E : Nat} {p : Int} (hp : p = (E : Int) - 1074) (hw : worth (4503599627370496 * e + m) = c * 2 ^ E) (s : Bool) : rn s (c * 2 ^ p.toNat) (1 * 2 ^ (-p).toNat) = frq s e m := by
  unfold frq
  rw [hw, Nat.one_mul]
  have hl := el_eq
  by_cases h : 0 ≤ p
  · have e1 : (-p).toNat = 0 := by omega
    have e2 : E = el + p.toNat := by omega
    rw [e1, e2, Nat.pow_add, Nat.mul_left_comm, Nat.pow_zero]
    have := rn_scale s (k := 2 ^ el) (c * 2 ^ p.toNat) 1 (Nat.pow_pos (by omega))
    rw [Nat.mul_one] at this
    exact this.symm
  · have e1 : p.toNat = 0 := by omega
    have e2 : el = E + (-p).toNat := by omega
    rw [e1, e2, Nat.pow_add, Nat.pow_zero, Nat.mul_one, Nat.mul_comm c]
    exact (rn_scale s (k := 2 ^ E) c (2 ^ (-p).toNat) (Nat.pow_pos (by omega))).symm
theorem unit_low {m : Nat} (hm : m < 4503599627370496) : Unit 0 m m (-1074) :=
  ⟨by omega, by omega, by omega, unit_val (E := 0) (by omega) (by rw [worth_at (by omega) (by omega)])⟩
theorem unit_high {e m : Nat} (h0 : e ≠ 0) (he : e < 2047) (hm : m < 4503599627370496) : Unit e m (4503599627370496 + m) ((e : Int) - 1 - 1074) := by
  refine ⟨by omega, by omega, by omega, unit_val (E := e - 1) (by omega) ?_⟩
  rw [← worth_at (e := e - 1) (by omega) (by omega)]
  congr 1
  obtain ⟨e, rfl⟩ : ∃ d, e = d + 1 := ⟨e - 1, by omega⟩
  rw [Nat.add_sub_cancel, Nat.mul_add]; omega

theorem or_lead {m : Nat} (h : m < 4503599627370496) : bits BinOp.or IntKind.u64 4503599627370496 (m : Int) = ((4503599627370496 + m : Nat) : Int) := by
  have h1 := bits_or_u64_nat 4503599627370496 m (by omega) (by omega)
  rw [nat_join 52 4503599627370496 m (by decide) h] at h1
  exact h1
theorem or_lead' {m : Nat} (h : m < 4503599627370496) : bits BinOp.or IntKind.u64 (m : Int) 4503599627370496 = ((4503599627370496 + m : Nat) : Int) := by
  have h1 := bits_or_u64_nat m 4503599627370496 (by omega) (by omega)
  rw [Nat.or_comm, nat_join 52 4503599627370496 m (by decide) h] at h1
  exact h1

set_option maxHeartbeats 1000000 in
theorem units_c (u : Nat) (s : Bool) (e m : Nat) (w : World) (h : Parts u s e m) (h2 : e ≠ 2047) :
    Calls Try.prog 64 #[.float .f64 u] w fun r w' => ∃ (c : Nat) (p : Int), r = .returned (.tuple #[.bool s, .int .u64 (c : Int), .int .i64 p]) ∧ Unit e m c p ∧ w = w' := by
  have H := Lib.hid h
  have he := h.exp
  by_cases h0 : e = 0
  · have U := Lib.hid (show Unit e m m (-1074) from by rw [h0]; exact unit_low h.frac)
    have f1 : ((e : Int) == 0) = true := by rw [beq_iff_eq]; omega
    clear h h0 h2
    go_enter Try.func64, Try.ntmps64
    go_wp2_with fail
    refine (Bits64_c u s e m _ H.out).mono ?_
    rintro r w' ⟨rfl, rfl⟩
    go_wp2
    go_ret3
    exact ⟨m, -1074, rfl, U.out, rfl⟩
  · obtain ⟨c, hc⟩ : ∃ c, c = 4503599627370496 + m := ⟨_, rfl⟩
    have U := Lib.hid (show Unit e m c ((e : Int) - 1 - 1074) from by rw [hc]; exact unit_high h0 (by omega) h.frac)
    have f1 : ((e : Int) == 0) = false := by rw [beq_eq_false_iff_ne]; omega
    have ho : bits BinOp.or IntKind.u64 4503599627370496 (m : Int) = (c : Int) := by rw [hc]; exact or_lead h.frac
    clear h h0 h2 hc
    go_enter Try.func64, Try.ntmps64
    go_wp2_with fail
    refine (Bits64_c u s e m _ H.out).mono ?_
    rintro r w' ⟨rfl, rfl⟩
    go_wp2
    go_ret3
    exact ⟨c, -1074 + (e : Int) - 1, rfl, by rw [show -1074 + (e : Int) - 1 = (e : Int) - 1 - 1074 by omega]; exact U.out, rfl⟩

theorem kd_num {s : Bool} {e m : Nat} (h : e ≠ 2047) : kd s e m < 3 := by
  unfold kd
  rw [if_neg h]
  split
  · split <;> omega
  · omega
theorem kd_err {s : Bool} {e m : Nat} (h : e = 2047) : kd s e m = if m ≠ 0 then 5 else if s then 4 else 3 := by unfold kd; rw [if_pos h]

set_option maxHeartbeats 1000000 in
theorem From_num (u : Nat) (s : Bool) (e m : Nat) (w : World) (h : Parts u s e m) (h2 : e ≠ 2047) :
    Calls Try.prog 27 #[.float .f64 u] w fun r w' => ∃ z : Rv, r = .returned (.tuple #[.agg #[.bool z.s, .slice z.A z.n z.c, .slice z.B z.m z.d], .int .i64 0]) ∧ Rt w' w.heap.size z (frq s e m) ∧ Below w.heap.size w w' := by
  have H := Lib.hid h
  have H2 := Lib.hid h2
  have hk := kd_num (s := s) (m := m) h2
  have hkind := Lib.hid (fun (w : World) => Kind_c u s e m w h)
  have e1 : ((kd s e m : Int) == 5) = false := by rw [beq_eq_false_iff_ne]; omega
  have e2 : ((kd s e m : Int) == 3) = false := by rw [beq_eq_false_iff_ne]; omega
  have e3 : ((kd s e m : Int) == 4) = false := by rw [beq_eq_false_iff_ne]; omega
  clear h h2
  generalize kd s e m = K at *
  go_enter Try.func27, Try.ntmps27
  go_wp2_with fail
  refine (hkind.out _).mono ?_
  rintro r w' ⟨rfl, rfl⟩
  have k := C3.new w (.bool false) (.slice none 0 0) (.slice none 0 0)
  have HB := (Below.refl w.heap.size w).alloc (Nat.le_refl _) (.cells #[.bool false, .slice none 0 0, .slice none 0 0] 24)
  have hsW : (w.alloc (.cells #[.bool false, .slice none 0 0, .slice none 0 0] 24)).heap.size = w.heap.size + 1 := by simp
  generalize w.alloc (.cells #[.bool false, .slice none 0 0, .slice none 0 0] 24) = W at *
  go_wp2_with fail
  refine (units_c u s e m _ H.out H2.out).mono ?_
  rintro r w' ⟨c, p, rfl, hU, rfl⟩
  obtain ⟨X, hX⟩ : ∃ X, X = c * 2 ^ p.toNat := ⟨_, rfl⟩
  obtain ⟨Y, hY⟩ : ∃ Y, Y = 1 * 2 ^ (-p).toNat := ⟨_, rfl⟩
  have HV : Hid (rn s X Y = frq s e m) := by rw [hX, hY]; exact hU.val s
  have HX := Lib.hid hX.symm
  have HY := Lib.hid hY.symm
  clear hX hY
  have p1 := hU.lo
  have p2 := hU.hi
  have c1 := hU.cnt
  clear hU H H2 e1 e2 e3 hkind hk
  go_wp2_with fail
  refine (Of_any c _ (by omega)).mono ?_
  rintro r w1 ⟨A1, x1, rfl, ho1, hb1⟩
  have r1 := ho1.row.lower (Nat.zero_le _)
  have k1 := ho1.capLe
  have l1 : (lim c).length ≤ 2 := lim_len_lt (by omega)
  replace k := k.below hb1
  replace HB := HB.trans (hb1.mono HB.size)
  clear ho1 hb1
  go_wp2_with fail
  refine (doubled_c A1 _ x1 _ p X _ (by omega) k1 r1 (by omega) (by rw [val_lim]; exact HX.out)).mono ?_
  rintro r w2 ⟨A2, x2, rfl, ho2, hb2⟩
  have r2 := ho2.row.lower (Nat.zero_le _)
  have k2 := ho2.capLe
  have l2 : (lim X).length ≤ 131 := by rw [← HX.out]; exact (Bd.shl (p := 2) (show c < 4294967296 ^ 2 by omega) (show p.toNat ≤ 4096 by omega)).len
  replace k := k.below hb2
  replace HB := HB.trans (hb2.mono HB.size)
  clear ho2 hb2 r1 k1 l1
  go_wp2_with fail
  refine (Of_any 1 _ (by omega)).mono ?_
  rintro r w3 ⟨A3, x3, rfl, ho3, hb3⟩
  have r3 := ho3.row.lower (Nat.zero_le _)
  have k3 := ho3.capLe
  have l3 : (lim 1).length ≤ 2 := lim_len_lt (by omega)
  replace k := k.below hb3
  replace r2 := r2.below hb3
  replace HB := HB.trans (hb3.mono HB.size)
  clear ho3 hb3
  go_wp2_with fail
  refine (doubled_c A3 _ x3 _ (-p) Y _ (by omega) k3 r3 (by omega) (by rw [val_lim]; exact HY.out)).mono ?_
  rintro r w4 ⟨A4, x4, rfl, ho4, hb4⟩
  have r4 := ho4.row.lower (Nat.zero_le _)
  have k4 := ho4.capLe
  have l4 : (lim Y).length ≤ 131 := by rw [← HY.out]; exact (Bd.shl (p := 2) (show 1 < 4294967296 ^ 2 by omega) (show (-p).toNat ≤ 4096 by omega)).len
  replace k := k.below hb4
  replace r2 := r2.below hb4
  replace HB := HB.trans (hb4.mono HB.size)
  clear ho4 hb4 r3 k3 l3
  go_wp2_with fail
  refine (Of_nums s A2 A4 _ _ x2 x4 X Y _ _ _ _ (val_lim _) (val_lim _) (by omega) (by omega) k2 k4 r2 r4 HV.out).mono ?_
  rintro r w5 ⟨z, rfl, hz, hb5⟩
  have hs4 := k.lt
  replace k := k.below hb5
  have hz' := hz.lower (show w.heap.size + 1 ≤ w4.heap.size from hs4)
  replace HB := HB.trans (hb5.mono HB.size)
  clear hb5 r2 r4 k2 k4 l2 l4 hz HV
  obtain ⟨q0, q1, q2, g0, g1, g2⟩ := k.facts
  go_wp2
  refine ret3t (fn := Try.f27) Try.results27 rfl rfl rfl (k.put _ _ _) ?_
  exact ⟨z, rfl, (hz'.put (by omega) _ _ _).lower (by omega), HB.trans (put3_below (Nat.le_refl _) _ _ _)⟩

/-- The struct of a number that is none. -/
def zRv : Rv := ⟨false, none, 0, 0, none, 0, 0⟩
theorem zRv_rw (w : World) (p : Nat) : Rw w zRv 0 p := ⟨Nat.le_refl _, Nat.le_refl _, Nat.zero_le _, Nat.zero_le _, [], [], Row.nil_ _ _ _, Row.nil_ _ _ _, rn_zero (.inl rfl)⟩

set_option maxHeartbeats 1000000 in
theorem From_err (u : Nat) (s : Bool) (e m : Nat) (w : World) (h : Parts u s e m) (h2 : e = 2047) :
    Calls Try.prog 27 #[.float .f64 u] w fun r w' => r = .returned (.tuple #[.agg #[.bool zRv.s, .slice zRv.A zRv.n zRv.c, .slice zRv.B zRv.m zRv.d], .int .i64 (if m ≠ 0 then 16 else 17 : Int)]) ∧ Below w.heap.size w w' := by
  have hk := kd_err (s := s) (m := m) h2
  have hkind := Lib.hid (fun (w : World) => Kind_c u s e m w h)
  have k := C3.new w (.bool false) (.slice none 0 0) (.slice none 0 0)
  have HB := (Below.refl w.heap.size w).alloc (Nat.le_refl _) (.cells #[.bool false, .slice none 0 0, .slice none 0 0] 24)
  have hst : ∀ W : World, C3 W w.heap.size (.bool false) (.slice none 0 0) (.slice none 0 0) → C3 (put3 W w.heap.size (.bool false) (.slice none 0 0) (.slice none 0 0)) w.heap.size (.bool false) (.slice none 0 0) (.slice none 0 0) := fun W k => k.put _ _ _
  have Hst := Lib.hid hst
  clear h h2 hst
  by_cases hm : m = 0
  · rw [if_neg (by omega)] at hk ⊢
    rw [hk] at hkind
    clear hk hm
    cases s
    all_goals
      go_enter Try.func27, Try.ntmps27
      go_wp2_with fail
      refine (hkind.out _).mono ?_
      rintro r w' ⟨rfl, rfl⟩
      generalize w.alloc (.cells #[.bool false, .slice none 0 0, .slice none 0 0] 24) = W at *
      obtain ⟨q0, q1, q2, g0, g1, g2⟩ := k.facts
      go_wp2
      refine ret3t (fn := Try.f27) Try.results27 rfl rfl rfl (Hst.out _ k) ?_
      exact ⟨rfl, HB.trans (put3_below (Nat.le_refl _) _ _ _)⟩
  · rw [if_pos (by omega)] at hk ⊢
    rw [hk] at hkind
    clear hk hm
    go_enter Try.func27, Try.ntmps27
    go_wp2_with fail
    refine (hkind.out _).mono ?_
    rintro r w' ⟨rfl, rfl⟩
    generalize w.alloc (.cells #[.bool false, .slice none 0 0, .slice none 0 0] 24) = W at *
    obtain ⟨q0, q1, q2, g0, g1, g2⟩ := k.facts
    go_wp2
    refine ret3t (fn := Try.f27) Try.results27 rfl rfl rfl (Hst.out _ k) ?_
    exact ⟨rfl, HB.trans (put3_below (Nat.le_refl _) _ _ _)⟩
end Go.Proofs.Ytmehlbdlllkcgaa

namespace Go.Proofs.Ytmehlbdlllkcgaa
set_option maxRecDepth 20000
open Go.RowKit

set_option maxHeartbeats 1000000 in
theorem rFrom_err (u : Nat) (s : Bool) (e m : Nat) (w : World) (h : Parts u s e m) (h2 : e = 2047) :
    Calls Try.prog 28 #[.float .f64 u] w fun r w' => ∃ z : Rv, r = .returned (.tuple #[.agg #[.bool z.s, .slice z.A z.n z.c, .slice z.B z.m z.d], .int .i64 (if m ≠ 0 then 16 else 17 : Int)]) ∧ Rt w' w.heap.size z 0 ∧ Below w.heap.size w w' := by
  have hk := kd_err (s := s) (m := m) h2
  have hkind := Lib.hid (fun (w : World) => rKind_c u s e m w h)
  have hbits := Lib.hid (fun (w : World) => rBits64_c u s e m w h)
  have k := C3.new w (.bool false) (.slice none 0 0) (.slice none 0 0)
  have HB := (Below.refl w.heap.size w).alloc (Nat.le_refl _) (.cells #[.bool false, .slice none 0 0, .slice none 0 0] 24)
  have hsW : (w.alloc (.cells #[.bool false, .slice none 0 0, .slice none 0 0] 24)).heap.size = w.heap.size + 1 := by simp
  have hint := Lib.hid (fun (w : World) => rInt_c 0 w (by omega))
  clear h h2
  by_cases hm : m = 0
  · rw [if_neg (by omega)] at hk ⊢
    rw [hk] at hkind
    clear hk hm
    cases s
    all_goals
      go_enter Try.func28, Try.ntmps28
      go_wp2_with fail
      refine (hbits.out _).mono ?_
      rintro r w' ⟨rfl, rfl⟩
      go_wp2_with fail
      refine (hkind.out _).mono ?_
      rintro r w' ⟨rfl, rfl⟩
      generalize w.alloc (.cells #[.bool false, .slice none 0 0, .slice none 0 0] 24) = W at *
      go_wp2_with fail
      refine (hint.out _).mono ?_
      rintro r w1 ⟨z, rfl, hz, hb1⟩
      replace k := k.below hb1
      replace HB := HB.trans (hb1.mono HB.size)
      clear hb1
      obtain ⟨q0, q1, q2, g0, g1, g2⟩ := k.facts
      go_wp2
      refine ret3t (fn := Try.f28) Try.results28 rfl rfl rfl (k.put _ _ _) ?_
      exact ⟨z, rfl, (hz.put (by omega) _ _ _).lower (by omega), HB.trans (put3_below (Nat.le_refl _) _ _ _)⟩
  · rw [if_pos (by omega)] at hk ⊢
    rw [hk] at hkind
    clear hk hm
    go_enter Try.func28, Try.ntmps28
    go_wp2_with fail
    refine (hbits.out _).mono ?_
    rintro r w' ⟨rfl, rfl⟩
    go_wp2_with fail
    refine (hkind.out _).mono ?_
    rintro r w' ⟨rfl, rfl⟩
    generalize w.alloc (.cells #[.bool false, .slice none 0 0, .slice none 0 0] 24) = W at *
    go_wp2_with fail
    refine (hint.out _).mono ?_
    rintro r w1 ⟨z, rfl, hz, hb1⟩
    replace k := k.below hb1
    replace HB := HB.trans (hb1.mono HB.size)
    clear hb1
    obtain ⟨q0, q1, q2, g0, g1, g2⟩ := k.facts
    go_wp2
    refine ret3t (fn := Try.f28) Try.results28 rfl rfl rfl (k.put _ _ _) ?_
    exact ⟨z, rfl, (hz.put (by omega) _ _ _).lower (by omega), HB.trans (put3_below (Nat.le_refl _) _ _ _)⟩

set_option maxHeartbeats 1000000 in
theorem rFrom_great (u : Nat) (s : Bool) (e m : Nat) (w : World) (h : Parts u s e m) (h2 : e ≠ 2047) (h3 : 1075 ≤ e) :
    Calls Try.prog 28 #[.float .f64 u] w fun r w' => ∃ z : Rv, r = .returned (.tuple #[.agg #[.bool z.s, .slice z.A z.n z.c, .slice z.B z.m z.d], .int .i64 0]) ∧ Rt w' w.heap.size z (frq s e m) ∧ Below w.heap.size w w' := by
  have hk := kd_num (s := s) (m := m) h2
  have hkind := Lib.hid (fun (w : World) => rKind_c u s e m w h)
  have hbits := Lib.hid (fun (w : World) => rBits64_c u s e m w h)
  have k := C3.new w (.bool false) (.slice none 0 0) (.slice none 0 0)
  have HB := (Below.refl w.heap.size w).alloc (Nat.le_refl _) (.cells #[.bool false, .slice none 0 0, .slice none 0 0] 24)
  have hsW : (w.alloc (.cells #[.bool false, .slice none 0 0, .slice none 0 0] 24)).heap.size = w.heap.size + 1 := by simp
  obtain ⟨c, hc⟩ : ∃ c, c = 4503599627370496 + m := ⟨_, rfl⟩
  have hU : Unit e m c ((e : Int) - 1 - 1074) := by rw [hc]; exact unit_high (by omega) (by have := h.exp; omega) h.frac
  have ho : bits BinOp.or IntKind.u64 (m : Int) 4503599627370496 = (c : Int) := by rw [hc]; exact or_lead' h.frac
  obtain ⟨X, hX⟩ : ∃ X, X = c * 2 ^ ((e : Int) - 1 - 1074).toNat := ⟨_, rfl⟩
  have he := h.exp
  have HV : Hid (rn s X 1 = frq s e m) := by
    show _ = _
    rw [hX, ← hU.val s, show (-((e : Int) - 1 - 1074)).toNat = 0 by omega]
  have HX : Hid (sh (val (lim c)) ((e : Int) - 1075) = X) := by
    show _ = _
    rw [val_lim, sh_up (by omega) (by omega), hX]
    congr 2
    omega
  have l2 : (lim X).length ≤ 131 := by rw [hX]; exact (Bd.shl (p := 2) (show c < 4294967296 ^ 2 by have := hU.cnt; omega) (by omega)).len
  have e1 : ((kd s e m : Int) == 5) = false := by rw [beq_eq_false_iff_ne]; omega
  have e2 : ((kd s e m : Int) == 3) = false := by rw [beq_eq_false_iff_ne]; omega
  have e3 : ((kd s e m : Int) == 4) = false := by rw [beq_eq_false_iff_ne]; omega
  have c1 := hU.cnt
  clear h h2 hc hU hX hk
  generalize kd s e m = K at *
  go_enter Try.func28, Try.ntmps28
  go_wp2_with fail
  refine (hbits.out _).mono ?_
  rintro r w' ⟨rfl, rfl⟩
  go_wp2_with fail
  refine (hkind.out _).mono ?_
  rintro r w' ⟨rfl, rfl⟩
  generalize w.alloc (.cells #[.bool false, .slice none 0 0, .slice none 0 0] 24) = W at *
  clear hkind hbits
  go_wp2_with fail
  refine (rOf_any c _ (by omega)).mono ?_
  rintro r w1 ⟨A1, x1, rfl, ho1, hb1⟩
  have r1 := ho1.row.lower (Nat.zero_le _)
  have k1 := ho1.capLe
  have l1 : (lim c).length ≤ 2 := lim_len_lt (by omega)
  replace k := k.below hb1
  replace HB := HB.trans (hb1.mono HB.size)
  clear ho1 hb1 ho
  go_wp2_with fail
  refine (rShift_any A1 _ x1 _ _ _ (by omega) k1 r1 (by omega)).mono ?_
  rintro r w2 ⟨A2, x2, rfl, ho2, hb2⟩
  rw [HX.out] at ho2 ⊢
  have r2 := ho2.row.lower (Nat.zero_le _)
  have k2 := ho2.capLe
  replace k := k.below hb2
  replace HB := HB.trans (hb2.mono HB.size)
  clear ho2 hb2 r1 k1 l1
  go_wp2_with fail
  have r3 := one_row w2 0 (Nat.zero_le _)
  have hbn := (Below.refl w2.heap.size w2).alloc (Nat.le_refl _) (.cells #[.int .u32 1] 25)
  replace r2 := r2.below hbn
  replace k := k.below hbn
  replace HB := HB.trans (hbn.mono HB.size)
  refine (rOf_n s A2 _ _ 1 x2 1 X 1 _ [1] _ _ (val_lim _) rfl (by omega) (by omega) k2 (Nat.le_refl _) r2 r3 HV.out).mono ?_
  rintro r w5 ⟨z, rfl, hz, hb5⟩
  have hs4 := k.lt
  replace k := k.below hb5
  have hz' := hz.lower (show w.heap.size + 1 ≤ _ from hs4)
  replace HB := HB.trans (hb5.mono HB.size)
  clear hb5 r2 r3 k2 l2 hz HV hbn hs4
  obtain ⟨q0, q1, q2, g0, g1, g2⟩ := k.facts
  go_wp2
  refine ret3t (fn := Try.f28) Try.results28 rfl rfl rfl (k.put _ _ _) ?_
  exact ⟨z, rfl, (hz'.put (by omega) _ _ _).lower (by omega), HB.trans (put3_below (Nat.le_refl _) _ _ _)⟩

set_option maxHeartbeats 1000000 in
theorem rFrom_small (u : Nat) (s : Bool) (e m : Nat) (w : World) (h : Parts u s e m) (h2 : e ≠ 2047) (h3 : e < 1075) (h4 : 0 < e) :
    Calls Try.prog 28 #[.float .f64 u] w fun r w' => ∃ z : Rv, r = .returned (.tuple #[.agg #[.bool z.s, .slice z.A z.n z.c, .slice z.B z.m z.d], .int .i64 0]) ∧ Rt w' w.heap.size z (frq s e m) ∧ Below w.heap.size w w' := by
  have hk := kd_num (s := s) (m := m) h2
  have hkind := Lib.hid (fun (w : World) => rKind_c u s e m w h)
  have hbits := Lib.hid (fun (w : World) => rBits64_c u s e m w h)
  have k := C3.new w (.bool false) (.slice none 0 0) (.slice none 0 0)
  have HB := (Below.refl w.heap.size w).alloc (Nat.le_refl _) (.cells #[.bool false, .slice none 0 0, .slice none 0 0] 24)
  have hsW : (w.alloc (.cells #[.bool false, .slice none 0 0, .slice none 0 0] 24)).heap.size = w.heap.size + 1 := by simp
  obtain ⟨c, hc⟩ : ∃ c, c = 4503599627370496 + m := ⟨_, rfl⟩
  have hU : Unit e m c ((e : Int) - 1 - 1074) := by rw [hc]; exact unit_high (by omega) (by have := h.exp; omega) h.frac
  have ho : bits BinOp.or IntKind.u64 (m : Int) 4503599627370496 = (c : Int) := by rw [hc]; exact or_lead' h.frac
  obtain ⟨X, hX⟩ : ∃ X, X = 1 * 2 ^ (-((e : Int) - 1 - 1074)).toNat := ⟨_, rfl⟩
  have he := h.exp
  have HV : Hid (rn s c X = frq s e m) := by
    show _ = _
    rw [hX, ← hU.val s, show ((e : Int) - 1 - 1074).toNat = 0 by omega, Nat.pow_zero, Nat.mul_one]
  have HX : Hid (sh 1 (1075 - (e : Int)) = X) := by
    show _ = _
    rw [sh_up (by omega) (by omega), hX]
    congr 2
    omega
  have l2 : (lim X).length ≤ 131 := by rw [hX]; exact (Bd.shl (p := 2) (show 1 < 4294967296 ^ 2 by omega) (by omega)).len
  have e1 : ((kd s e m : Int) == 5) = false := by rw [beq_eq_false_iff_ne]; omega
  have e2 : ((kd s e m : Int) == 3) = false := by rw [beq_eq_false_iff_ne]; omega
  have e3 : ((kd s e m : Int) == 4) = false := by rw [beq_eq_false_iff_ne]; omega
  have c1 := hU.cnt
  clear h h2 hc hU hX hk
  generalize kd s e m = K at *
  go_enter Try.func28, Try.ntmps28
  go_wp2_with fail
  refine (hbits.out _).mono ?_
  rintro r w' ⟨rfl, rfl⟩
  go_wp2_with fail
  refine (hkind.out _).mono ?_
  rintro r w' ⟨rfl, rfl⟩
  generalize w.alloc (.cells #[.bool false, .slice none 0 0, .slice none 0 0] 24) = W at *
  clear hkind hbits
  go_wp2_with fail
  refine (rOf_any c _ (by omega)).mono ?_
  rintro r w1 ⟨A1, x1, rfl, ho1, hb1⟩
  have r1 := ho1.row.lower (Nat.zero_le _)
  have k1 := ho1.capLe
  have l1 : (lim c).length ≤ 2 := lim_len_lt (by omega)
  replace k := k.below hb1
  replace HB := HB.trans (hb1.mono HB.size)
  clear ho1 hb1 ho
  go_wp2_with fail
  have rl := one_row w1 0 (Nat.zero_le _)
  have hbn := (Below.refl w1.heap.size w1).alloc (Nat.le_refl _) (.cells #[.int .u32 1] 25)
  replace r1 := r1.below hbn
  replace k := k.below hbn
  replace HB := HB.trans (hbn.mono HB.size)
  refine (rShift_any _ 1 1 [1] _ _ (by omega) (Nat.le_refl _) rl (by omega)).mono ?_
  rintro r w2 ⟨A2, x2, rfl, ho2, hb2⟩
  rw [show val [1] = 1 from rfl, HX.out] at ho2 ⊢
  have r2 := ho2.row.lower (Nat.zero_le _)
  have k2 := ho2.capLe
  replace k := k.below hb2
  replace r1 := r1.below hb2
  replace HB := HB.trans (hb2.mono HB.size)
  clear ho2 hb2 rl
  go_wp2_with fail
  refine (rOf_n s A1 A2 _ _ x1 x2 c X _ _ _ _ (val_lim _) (val_lim _) (by omega) (by omega) k1 k2 r1 r2 HV.out).mono ?_
  rintro r w5 ⟨z, rfl, hz, hb5⟩
  have hs4 := k.lt
  replace k := k.below hb5
  have hz' := hz.lower (show w.heap.size + 1 ≤ _ from hs4)
  replace HB := HB.trans (hb5.mono HB.size)
  clear hb5 r1 r2 k1 k2 l1 l2 hz HV hbn hs4
  obtain ⟨q0, q1, q2, g0, g1, g2⟩ := k.facts
  go_wp2
  refine ret3t (fn := Try.f28) Try.results28 rfl rfl rfl (k.put _ _ _) ?_
  exact ⟨z, rfl, (hz'.put (by omega) _ _ _).lower (by omega), HB.trans (put3_below (Nat.le_refl _) _ _ _)⟩

set_option maxHeartbeats 1000000 in
theorem rFrom_least (u : Nat) (s : Bool) (e m : Nat) (w : World) (h : Parts u s e m) (h2 : e ≠ 2047) (h3 : e = 0) :
    Calls Try.prog 28 #[.float .f64 u] w fun r w' => ∃ z : Rv, r = .returned (.tuple #[.agg #[.bool z.s, .slice z.A z.n z.c, .slice z.B z.m z.d], .int .i64 0]) ∧ Rt w' w.heap.size z (frq s e m) ∧ Below w.heap.size w w' := by
  have hk := kd_num (s := s) (m := m) h2
  have hkind := Lib.hid (fun (w : World) => rKind_c u s e m w h)
  have hbits := Lib.hid (fun (w : World) => rBits64_c u s e m w h)
  have k := C3.new w (.bool false) (.slice none 0 0) (.slice none 0 0)
  have HB := (Below.refl w.heap.size w).alloc (Nat.le_refl _) (.cells #[.bool false, .slice none 0 0, .slice none 0 0] 24)
  have hsW : (w.alloc (.cells #[.bool false, .slice none 0 0, .slice none 0 0] 24)).heap.size = w.heap.size + 1 := by simp
  have hU : Unit e m m (-1074) := by rw [h3]; exact unit_low h.frac
  obtain ⟨X, hX⟩ : ∃ X, X = 1 * 2 ^ (-(-1074 : Int)).toNat := ⟨_, rfl⟩
  have he := h.exp
  have h4 : e < 1 := by omega
  have HV : Hid (rn s m X = frq s e m) := by
    show _ = _
    rw [hX, ← hU.val s, show (-1074 : Int).toNat = 0 by omega, Nat.pow_zero, Nat.mul_one]
  have HX : Hid (sh 1 1074 = X) := by
    show _ = _
    rw [sh_up (by omega) (by omega), hX]
    congr 2
  have l2 : (lim X).length ≤ 131 := by rw [hX]; exact (Bd.shl (p := 2) (show 1 < 4294967296 ^ 2 by omega) (by omega)).len
  have e1 : ((kd s e m : Int) == 5) = false := by rw [beq_eq_false_iff_ne]; omega
  have e2 : ((kd s e m : Int) == 3) = false := by rw [beq_eq_false_iff_ne]; omega
  have e3 : ((kd s e m : Int) == 4) = false := by rw [beq_eq_false_iff_ne]; omega
  have c1 := hU.cnt
  clear h h2 hU hX hk h3
  generalize kd s e m = K at *
  go_enter Try.func28, Try.ntmps28
  go_wp2_with fail
  refine (hbits.out _).mono ?_
  rintro r w' ⟨rfl, rfl⟩
  go_wp2_with fail
  refine (hkind.out _).mono ?_
  rintro r w' ⟨rfl, rfl⟩
  generalize w.alloc (.cells #[.bool false, .slice none 0 0, .slice none 0 0] 24) = W at *
  clear hkind hbits
  go_wp2_with fail
  refine (rOf_any m _ (by omega)).mono ?_
  rintro r w1 ⟨A1, x1, rfl, ho1, hb1⟩
  have r1 := ho1.row.lower (Nat.zero_le _)
  have k1 := ho1.capLe
  have l1 : (lim m).length ≤ 2 := lim_len_lt (by omega)
  replace k := k.below hb1
  replace HB := HB.trans (hb1.mono HB.size)
  clear ho1 hb1
  go_wp2_with fail
  have rl := one_row w1 0 (Nat.zero_le _)
  have hbn := (Below.refl w1.heap.size w1).alloc (Nat.le_refl _) (.cells #[.int .u32 1] 25)
  replace r1 := r1.below hbn
  replace k := k.below hbn
  replace HB := HB.trans (hbn.mono HB.size)
  refine (rShift_any _ 1 1 [1] _ _ (by omega) (Nat.le_refl _) rl (by omega)).mono ?_
  rintro r w2 ⟨A2, x2, rfl, ho2, hb2⟩
  rw [show val [1] = 1 from rfl, HX.out] at ho2 ⊢
  have r2 := ho2.row.lower (Nat.zero_le _)
  have k2 := ho2.capLe
  replace k := k.below hb2
  replace r1 := r1.below hb2
  replace HB := HB.trans (hb2.mono HB.size)
  clear ho2 hb2 rl
  go_wp2_with fail
  refine (rOf_n s A1 A2 _ _ x1 x2 m X _ _ _ _ (val_lim _) (val_lim _) (by omega) (by omega) k1 k2 r1 r2 HV.out).mono ?_
  rintro r w5 ⟨z, rfl, hz, hb5⟩
  have hs4 := k.lt
  replace k := k.below hb5
  have hz' := hz.lower (show w.heap.size + 1 ≤ _ from hs4)
  replace HB := HB.trans (hb5.mono HB.size)
  clear hb5 r1 r2 k1 k2 l1 l2 hz HV hbn hs4
  obtain ⟨q0, q1, q2, g0, g1, g2⟩ := k.facts
  go_wp2
  refine ret3t (fn := Try.f28) Try.results28 rfl rfl rfl (k.put _ _ _) ?_
  exact ⟨z, rfl, (hz'.put (by omega) _ _ _).lower (by omega), HB.trans (put3_below (Nat.le_refl _) _ _ _)⟩

theorem rFrom_num (u : Nat) (s : Bool) (e m : Nat) (w : World) (h : Parts u s e m) (h2 : e ≠ 2047) :
    Calls Try.prog 28 #[.float .f64 u] w fun r w' => ∃ z : Rv, r = .returned (.tuple #[.agg #[.bool z.s, .slice z.A z.n z.c, .slice z.B z.m z.d], .int .i64 0]) ∧ Rt w' w.heap.size z (frq s e m) ∧ Below w.heap.size w w' := by
  by_cases h3 : 1075 ≤ e
  · exact rFrom_great u s e m w h h2 h3
  · by_cases h4 : e = 0
    · exact rFrom_least u s e m w h h2 h4
    · exact rFrom_small u s e m w h h2 (by omega) (by omega)
end Go.Proofs.Ytmehlbdlllkcgaa

namespace Go.Proofs.Ytmehlbdlllkcgaa
set_option maxRecDepth 20000
open Go.RowKit

set_option maxHeartbeats 400000 in
theorem sign_c (s : Bool) (w : World) :
    Calls Try.prog 75 #[.bool s] w fun r w' => r = .returned (.int .i64 (if s then -1 else 1)) ∧ w = w' := by
  cases s
  all_goals
    go_enter Try.func75, Try.ntmps75
    go_wp2
    go_ret
    exact ⟨rfl, rfl⟩

/-- The bits of an infinity. -/
def infb (s : Bool) : Nat := if s then 18442240474082181120 else 9218868437227405312
set_option maxHeartbeats 400000 in
theorem Inf_c (s : Bool) (w : World) :
    Calls Try.prog 74 #[.int .i64 (if s then -1 else 1)] w fun r w' => r = .returned (.float .f64 (infb s)) ∧ w = w' := by
  have hfr := fun n => frombits64 n
  cases s
  all_goals
    go_enter Try.func74, Try.ntmps74
    go_wp2
    go_ret
    exact ⟨rfl, rfl⟩

theorem lim_first {q : Nat} (h : q ≠ 0) : dg (lim q) 0 = q % 4294967296 := by rw [lim_pos h, dg_zero]

set_option maxHeartbeats 1000000 in
theorem rnear_c (A B : Option Addr) (n m c d x y : Nat) (a b : List Nat) (w : World) (hn : n ≤ 250) (hm : m ≤ 250) (hcn : n ≤ c) (hdm : m ≤ d) (ha : Row w 0 A n a) (hb : Row w 0 B m b) (hx : val a = x) (hy : val b = y)
    (hy0 : 0 < y) :
    Calls Try.prog 77 #[.slice A n c, .slice B m d] w fun e w' => ∃ A2 c2, e = .returned (.slice A2 (lim (rq x y)).length c2) ∧ Row w' 0 A2 (lim (rq x y)).length (lim (rq x y)) ∧ (lim (rq x y)).length ≤ c2 ∧ Below w.heap.size w w' := by
  have hrl := Lib.hid (show (lim (x % y)).length ≤ m by
    have h1 : x % y < y := Nat.mod_lt _ hy0
    rw [← hy] at h1 ⊢
    exact ((hb.bd (Nat.le_refl _)).le (Nat.le_of_lt h1)).len)
  have hql : Hid ((lim (x / y)).length ≤ n) := by
    show _ ≤ _
    have h1 : x / y ≤ x := Nat.div_le_self _ _
    rw [← hx] at h1 ⊢
    exact ((ha.bd (Nat.le_refl _)).le h1).len
  have hcmp := Lib.hid (fun (X : Option Addr) (p cx : Nat) (l : List Nat) (w : World) (h1 : p ≤ 1000000) (h2 : p ≤ cx) (h3 : Row w 0 X p l) (h4 : Row w 0 B m b) => by
    have h := rCmp_any X B p m cx d l b w h1 (by omega) h2 hdm h3 h4
    rw [hy] at h
    exact h)
  have HR : Hid (∀ Q, Q = rq x y ↔ Q = if y < 2 * (x % y) ∨ (2 * (x % y) = y ∧ x / y % 2 = 1) then x / y + 1 else x / y) := fun Q => Iff.rfl
  go_enter Try.func77, Try.ntmps77
  go_wp2_with fail
  refine (rDivMod_pos A B n m c d x y a b _ hn hm hcn hdm ha hb hx hy hy0).mono ?_
  rintro e w1 ⟨X2, c2, Y2, d2, rfl, hoq, hor, hb1⟩
  have rq1 := hoq.row.lower (Nat.zero_le _)
  have rr1 := hor.row.lower (Nat.zero_le _)
  have kq := hoq.capLe
  have kr := hor.capLe
  replace hb := hb.below hb1
  clear hoq hor ha hx hy
  have hx := HR.out
  clear HR
  generalize x / y = q at *
  generalize x % y = r at *
  have hrl' := hrl.out
  go_wp2_with fail
  refine (rAdd_any Y2 Y2 _ _ d2 d2 _ _ _ (by omega) (by omega) rr1 rr1).mono ?_
  rintro e w2 ⟨A3, c3, rfl, ho3, hb2⟩
  rw [val_lim] at ho3 ⊢
  have r3 := ho3.row.lower (Nat.zero_le _)
  have k3 := ho3.capLe
  replace hb := hb.below hb2
  replace rq1 := rq1.below hb2
  have HB := hb1.trans (hb2.mono hb1.size)
  have l3 : (lim (r + r)).length ≤ m + 1 := by
    have h1 : Bd r m := Bd.ofLen hrl'
    have := (h1.add h1).len
    omega
  clear ho3 hb1 hb2 rr1 kr hrl hrl'
  go_wp2_with fail
  refine (hcmp.out A3 _ c3 _ _ (by omega) k3 r3 hb).mono ?_
  rintro e w3 ⟨rfl, hb3⟩
  replace HB := HB.trans (hb3.mono HB.size)
  replace rq1 := rq1.below hb3
  rw [val_lim]
  have hql' := hql.out
  clear r3 k3 l3 hb hcmp hb3
  have hadd := Lib.hid (fun (w : World) (hA : Row w 0 X2 (lim q).length (lim q)) => by
    have hr2 := one_row w 0 (Nat.zero_le _)
    have hbn := (Below.refl w.heap.size w).alloc (Nat.le_refl _) (.cells #[.int .u32 1] 25)
    have h := rAdd_any X2 _ _ 1 c2 1 _ [1] _ (by omega) (by omega) (hA.below hbn) hr2
    rw [val_lim, show val [1] = 1 from rfl] at h
    exact h)
  have hbn3 := (Below.refl w3.heap.size w3).alloc (Nat.le_refl _) (.cells #[.int .u32 1] 25)
  have HB3 := Lib.hid (HB.trans (hbn3.mono HB.size))
  clear hbn3
  rcases Nat.lt_trichotomy y (r + r) with h | h | h
  · rw [cmpI_gt h]
    have E := (hx _).2 (if_pos (.inl (by omega))).symm
    have E' := Lib.hid E
    clear E hx h hy0
    go_wp2_with fail
    refine (hadd.out _ rq1).mono ?_
    rintro e w4 ⟨A4, c4, rfl, ho4, hb4⟩
    have HO := Lib.hid ho4
    clear ho4
    have HB4 := Lib.hid (HB3.out.trans (hb4.mono HB3.out.size))
    clear hb4
    go_wp2
    go_ret
    rw [← E'.out]
    exact ⟨A4, c4, rfl, HO.out.row.lower (Nat.zero_le _), HO.out.capLe, HB4.out⟩
  · rw [cmpI_eq h.symm]
    by_cases h0 : q = 0
    · have e0 : lim q = [] := by rw [h0, lim_zero]
      have E := (hx _).2 (if_neg (by omega)).symm
      have E' := Lib.hid E
      have e0' := Lib.hid e0
      rw [e0] at rq1 kq ⊢
      clear E hx h h0 hy0 e0 hadd hql hql'
      go_wp2
      go_ret
      rw [← E'.out, e0'.out]
      exact ⟨X2, c2, rfl, rq1, kq, HB⟩
    · have f0 : 0 < (lim q).length := by rw [lim_pos h0]; simp
      obtain ⟨b, off, hX2, h1, h3, hc⟩ := rq1.mem f0
      subst hX2
      have hcb := hc 0 f0
      rw [lim_first h0, Nat.add_zero] at hcb
      have hand := and_one (u := q % 4294967296) (Nat.mod_lt _ (by omega))
      have hlt : q % 4294967296 < 4294967296 := Nat.mod_lt _ (by omega)
      have hpar : q % 4294967296 % 2 = q % 2 := by omega
      rw [hpar] at hand
      clear hc hpar
      generalize q % 4294967296 = u at *
      by_cases h2 : q % 2 = 1
      · have E := (hx _).2 (if_pos (.inr ⟨by omega, h2⟩)).symm
        have E' := Lib.hid E
        rw [h2] at hand
        have hand1 : bits BinOp.and IntKind.u32 (u : Int) 1 = 1 := hand
        clear E hx h h2 hy0 hand h0
        go_wp2_with fail
        refine (hadd.out _ rq1).mono ?_
        rintro e w4 ⟨A4, c4, rfl, ho4, hb4⟩
        have HO := Lib.hid ho4
        clear ho4
        have HB4 := Lib.hid (HB3.out.trans (hb4.mono HB3.out.size))
        clear hb4
        go_wp2
        go_ret
        rw [← E'.out]
        exact ⟨A4, c4, rfl, HO.out.row.lower (Nat.zero_le _), HO.out.capLe, HB4.out⟩
      · have E := (hx _).2 (if_neg (by omega)).symm
        have E' := Lib.hid E
        rw [show q % 2 = 0 by omega] at hand
        have hand0 : bits BinOp.and IntKind.u32 (u : Int) 1 = 0 := hand
        clear E hx h h2 hy0 hand h0
        go_wp2
        go_ret
        rw [← E'.out]
        exact ⟨_, c2, rfl, rq1, kq, HB⟩
  · rw [cmpI_lt h]
    have E := (hx _).2 (if_neg (by omega)).symm
    have E' := Lib.hid E
    clear E hx h hy0
    go_wp2
    go_ret
    rw [← E'.out]
    exact ⟨X2, c2, rfl, rq1, kq, HB⟩
end Go.Proofs.Ytmehlbdlllkcgaa

namespace Go.Proofs.Ytmehlbdlllkcgaa
set_option maxRecDepth 20000
open Go.RowKit

theorem tof_ne {r : Rat} (h : r ≠ 0) : tof r = if dbl r.num.natAbs r.den = 0 then 0 else (if decide (r.num < 0) then 9223372036854775808 else 0) + dbl r.num.natAbs r.den := by
  unfold tof tf
  rw [if_neg]
  intro h1
  rcases h1 with h1 | h1
  · exact num_ne h (by omega)
  · exact r.den_nz h1

theorem rBits_v (x : Nat) (A : Option Addr) (n c : Nat) (a : List Nat) (w : World) (hx : val a = x) (hn : n ≤ 100000) (hcn : n ≤ c) (ha : Row w 0 A n a) :
    Calls Try.prog 73 #[.slice A n c] w fun e w' => e = .returned (.int .i64 (nbits x : Nat)) ∧ Below w.heap.size w w' := by
  subst hx; exact rBits_any A n c a w hn hcn ha
theorem rShift_v (X : Nat) (A : Option Addr) (n c : Nat) (a : List Nat) (i : Int) (w : World) (hX : sh (val a) i = X) (hn : n ≤ 100000) (hcn : n ≤ c) (ha : Row w 0 A n a) (hi : -9223372036854775808 ≤ i ∧ i ≤ 9223372036854775807) :
    Calls Try.prog 68 #[.slice A n c, .int .i64 i] w fun e w' => ∃ A2 c2, e = .returned (.slice A2 (lim X).length c2) ∧ Row w' 0 A2 (lim X).length (lim X) ∧ (lim X).length ≤ c2 ∧ Below w.heap.size w w' := by
  subst hX
  refine (rShift_any A n c a i w hn hcn ha hi).mono ?_
  rintro e w' ⟨A2, c2, he, ho, hb⟩
  subst he
  exact ⟨A2, c2, rfl, ho.row.lower (Nat.zero_le _), ho.capLe, hb⟩
theorem rCmp_w (X Y : Nat) (A B : Option Addr) (n m c d : Nat) (a b : List Nat) (w : World) (hx : val a = X) (hy : val b = Y) (hn : n ≤ 1000000) (hm : m ≤ 1000000) (hcn : n ≤ c) (hdm : m ≤ d) (ha : Row w 0 A n a) (hb : Row w 0 B m b) :
    Calls Try.prog 62 #[.slice A n c, .slice B m d] w fun e w' => e = .returned (.int .i64 (cmpI X Y)) ∧ Below w.heap.size w w' := by
  subst hx hy; exact rCmp_any A B n m c d a b w hn hm hcn hdm ha hb

set_option maxHeartbeats 1000000 in
theorem rTo_zero (v : Rv) (r : Rat) (w : World) (hv : Rw w v r 125) (h0 : r = 0) :
    Calls Try.prog 41 #[.agg #[.bool v.s, .slice v.A v.n v.c, .slice v.B v.m v.d]] w fun e w' => e = .returned (.float .f64 0) ∧ Below w.heap.size w w' := by
  go_enter Try.func41, Try.ntmps41
  go_wp2_with fail
  generalize hW : (w.alloc (.cells #[.bool v.s, .slice v.A v.n v.c, .slice v.B v.m v.d] 24)) = W
  obtain ⟨k, HW, hsW⟩ := open1 w v W hW
  clear hW
  refine (rNorm_c v r _ ((hv.below HW).more (by omega))).mono ?_
  rintro e w1 ⟨z, rfl, hz, hb1⟩
  have HB := HW.trans (hb1.mono (by omega))
  have kz := C3.new w1 (.bool z.s) (.slice z.A z.n z.c) (.slice z.B z.m z.d)
  have HB2 := HB.trans (((Below.refl w1.heap.size w1).alloc (Nat.le_refl _) (.cells #[.bool z.s, .slice z.A z.n z.c, .slice z.B z.m z.d] 24)).mono HB.size)
  have hn := hz.n_zero h0
  have E := Lib.hid hn
  clear hb1 k HW hv h0 hz HB hsW
  obtain ⟨z, Az, nz, cz, Bz, mz, dz⟩ := z
  simp only at hn
  subst hn
  obtain ⟨q0, q1, q2, g0, g1, g2⟩ := kz.facts
  go_wp2
  go_ret
  exact ⟨rfl, HB2⟩

theorem rTo_v (C : Nat) (A : Option Addr) (n c : Nat) (a : List Nat) (w : World) (hx : val a = C) (hn : n ≤ 100000) (hcn : n ≤ c) (ha : Row w 0 A n a) (h2 : (lim C).length ≤ 2) :
    Calls Try.prog 76 #[.slice A n c] w fun e w' => e = .returned (.tuple #[.int .u64 (C : Nat), .bool true]) ∧ Below w.heap.size w w' := by
  subst hx; exact rTo_yes A n c a w hn hcn ha h2

theorem Inf_m (w : World) :
    Calls Try.prog 74 #[.int .i64 (-1)] w fun r w' => r = .returned (.float .f64 18442240474082181120) ∧ w = w' := Inf_c true w
theorem Inf_p (w : World) :
    Calls Try.prog 74 #[.int .i64 1] w fun r w' => r = .returned (.float .f64 9218868437227405312) ∧ w = w' := Inf_c false w
theorem rnear_v (C : Nat) (A B : Option Addr) (n m c d x y : Nat) (a b : List Nat) (w : World) (hC : rq x y = C) (hn : n ≤ 250) (hm : m ≤ 250) (hcn : n ≤ c) (hdm : m ≤ d) (ha : Row w 0 A n a) (hb : Row w 0 B m b) (hx : val a = x) (hy : val b = y)
    (hy0 : 0 < y) :
    Calls Try.prog 77 #[.slice A n c, .slice B m d] w fun e w' => ∃ A2 c2, e = .returned (.slice A2 (lim C).length c2) ∧ Row w' 0 A2 (lim C).length (lim C) ∧ (lim C).length ≤ c2 ∧ Below w.heap.size w w' := by
  subst hC; exact rnear_c A B n m c d x y a b w hn hm hcn hdm ha hb hx hy hy0
theorem wrap_id {i : Int} (h : -9223372036854775808 ≤ i ∧ i ≤ 9223372036854775807) : IntKind.i64.wrap i = i := by
  rw [IntKind.wrap_i64]; omega

set_option maxRecDepth 100000 in
set_option maxHeartbeats 8000000 in
theorem rTo_pos (v : Rv) (r : Rat) (w : World) (hv : Rw w v r 120) (h0 : r ≠ 0) :
    Calls Try.prog 41 #[.agg #[.bool v.s, .slice v.A v.n v.c, .slice v.B v.m v.d]] w fun e w' => e = .returned (.float .f64 (tof r)) ∧ Below w.heap.size w w' := by
  have z_r := hv.sz (by omega)
  have hx0 : r.num.natAbs ≠ 0 := by have := num_ne h0; omega
  have hy0 := r.den_nz
  have bx := z_r.num.more (show 120 ≤ 125 by omega)
  have bY := z_r.den.more (show 120 ≤ 125 by omega)
  have lx : (lim r.num.natAbs).length ≤ 120 := z_r.num.len
  have ly : (lim r.den).length ≤ 120 := z_r.den.len
  have bx' := Lib.hid z_r.num
  have by' := Lib.hid z_r.den
  have ET := Lib.hid (tof_ne h0)
  have hrn : Hid (∀ W : World, Rw W v r 120 → Rw W v r 250) := fun W h => h.more (by omega)
  have hfr := fun n => frombits64 n
  go_enter Try.func41, Try.ntmps41
  go_wp2_with fail
  generalize hW : (w.alloc (.cells #[.bool v.s, .slice v.A v.n v.c, .slice v.B v.m v.d] 24)) = W
  obtain ⟨k, HW, hsW⟩ := open1 w v W hW
  clear hW
  refine (rNorm_c v r _ (hrn.out _ (hv.below HW))).mono ?_
  rintro e w1 ⟨z, rfl, hz, hb1⟩
  have HB := HW.trans (hb1.mono (by omega))
  clear hb1 k HW hv z_r hsW hrn
  have kz := C3.new w1 (.bool z.s) (.slice z.A z.n z.c) (.slice z.B z.m z.d)
  have hbn := (Below.refl w1.heap.size w1).alloc (Nat.le_refl _) (.cells #[.bool z.s, .slice z.A z.n z.c, .slice z.B z.m z.d] 24)
  replace HB := HB.trans (hbn.mono HB.size)
  have hzn := (hz.num.below hbn).lower (Nat.zero_le _)
  have hzd := (hz.den.below hbn).lower (Nat.zero_le _)
  have hs : decide (r.num < 0) = z.s := hz.sign.symm
  have cn := hz.numCap
  have cd := hz.denCap
  have npos := hz.n_pos h0
  have ln : z.n = (lim r.num.natAbs).length := hz.numLen
  have ld : z.m = (lim r.den).length := hz.denLen
  rw [hs] at ET
  have hn0 : (z.n : Int) ≠ 0 := by omega
  have hnl : z.n ≤ 120 := by omega
  have hml : z.m ≤ 120 := by omega
  clear hz hbn hs h0 ln ld lx ly
  generalize r.num.natAbs = x at *
  generalize r.den = y at *
  obtain ⟨q0, q1, q2, g0, g1, g2⟩ := kz.facts
  go_wp2_with fail
  generalize (w1.alloc (.cells #[.bool z.s, .slice z.A z.n z.c, .slice z.B z.m z.d] 24)) = W2 at *
  generalize w1.heap.size = zb at *
  clear q0 q1 q2 g0 g1 g2 hn0 npos
  have nx := bx.bits hx0
  have ny := bY.bits hy0
  obtain ⟨P, hP⟩ : ∃ P : Int, P = (nbits x : Int) - (nbits y : Int) := ⟨_, rfl⟩
  have hl := lg_bits hx0 hy0 nx ny hP
  rw [em_eq] at hl
  have hP1 : -4000 ≤ P ∧ P ≤ 4000 := by omega
  obtain ⟨X, hX⟩ : ∃ X, X = x * 2 ^ (-P).toNat := ⟨_, rfl⟩
  obtain ⟨Y, hY⟩ : ∃ Y, Y = y * 2 ^ P.toNat := ⟨_, rfl⟩
  rw [← hX, ← hY] at hl
  have HL : Hid ((lg x y : Int) = (if X < Y then P - 1 else P) + (4096 : Nat)) := hl
  have HX : Hid (sh (val (lim x)) (max 0 (-P)) = X) := by
    show _ = _
    rw [val_lim, sh_up (by omega) (by omega), hX]
    congr 2
    omega
  have HY : Hid (sh (val (lim y)) (max 0 P) = Y) := by
    show _ = _
    rw [val_lim, sh_up (by omega) (by omega), hY]
    congr 2
    omega
  have l1 : (lim X).length ≤ 300 := by rw [hX]; have := (bx.shl (k := (-P).toNat) (by omega)).len; omega
  have l2 : (lim Y).length ≤ 300 := by rw [hY]; have := (bY.shl (k := P.toNat) (by omega)).len; omega
  have hdu := Lib.hid (fun h => dbl_unit hx0 bY hy0 h)
  have hD63 := Lib.hid (dbl_lt hx0 hy0 bY)
  have hDle := Lib.hid (dbl_le (Nat.pos_of_ne_zero hy0) (Bd.em hx0 bY (by omega)))
  have hinf : Hid (5120 ≤ lg x y → dbl x y = 9218868437227405312) := by
    intro h
    unfold dbl
    rw [if_pos h]
  clear hl hX hY bx bY hx0 hy0
  obtain ⟨q0, q1, q2, g0, g1, g2⟩ := kz.facts
  replace kz := kz.drew
  replace hzn := hzn.drew
  replace hzd := hzd.drew
  replace HB := HB.drew
  go_region_held3 (fun w' => w'.cell? ⟨zb, 1, none⟩ = some (.slice z.A z.n z.c) ∧ w'.cell? ⟨zb, 2, none⟩ = some (.slice z.B z.m z.d)) (go_keep)
      (first
      | (go_at_call_of 73 z.A
         refine (rBits_v x z.A z.n z.c _ _ (val_lim _) (by omega) cn hzn).mono ?_
         rintro e w3 ⟨rfl, hb⟩
         replace HB := HB.trans (hb.mono HB.size)
         replace kz := kz.below hb
         replace hzn := hzn.below hb
         replace hzd := hzd.below hb
         clear hb q0 q1 q2 g0 g1 g2
         obtain ⟨q0, q1, q2, g0, g1, g2⟩ := kz.facts)
      | (go_at_call_of 73 z.B
         refine (rBits_v y z.B z.m z.d _ _ (val_lim _) (by omega) cd hzd).mono ?_
         rintro e w4 ⟨rfl, hb⟩
         replace HB := HB.trans (hb.mono HB.size)
         replace kz := kz.below hb
         replace hzn := hzn.below hb
         replace hzd := hzd.below hb
         clear hb q0 q1 q2 g0 g1 g2
         obtain ⟨q0, q1, q2, g0, g1, g2⟩ := kz.facts))
  go_wp2_with fail
  have hwP : IntKind.i64.wrap P = P := wrap_id (by omega)
  have hwN : IntKind.i64.wrap (-P) = -P := wrap_id (by omega)
  rw [← hP, hwP]
  clear hP nx ny
  generalize nbits x = nbx at *
  generalize nbits y = nby at *
  clear q0 q1 q2 g0 g1 g2
  go_cut [5] (fun v wx => v = .int .i64 (cmpI X Y) ∧ Hid (C3 wx zb (.bool z.s) (.slice z.A z.n z.c) (.slice z.B z.m z.d) ∧ Row wx 0 z.A z.n (lim x) ∧ Row wx 0 z.B z.m (lim y) ∧ Below w.heap.size w wx))
  case first =>
    obtain ⟨q0, q1, q2, g0, g1, g2⟩ := kz.facts
    replace kz := kz.drew
    replace hzn := hzn.drew
    replace hzd := hzd.drew
    replace HB := HB.drew
    go_region_held3 (fun w' => w'.cell? ⟨zb, 1, none⟩ = some (.slice z.A z.n z.c) ∧ w'.cell? ⟨zb, 2, none⟩ = some (.slice z.B z.m z.d)) (go_keep)
        (first
        | (go_at_call_of 68 z.A
           refine (rShift_v X z.A z.n z.c _ _ _ HX.out (by omega) cn hzn (by omega)).mono ?_
           rintro e w5 ⟨A1, c1, rfl, r1, k1, hb⟩
           replace HB := HB.trans (hb.mono HB.size)
           replace kz := kz.below hb
           replace hzn := hzn.below hb
           replace hzd := hzd.below hb
           clear hb q0 q1 q2 g0 g1 g2
           obtain ⟨q0, q1, q2, g0, g1, g2⟩ := kz.facts)
        | (go_at_call_of 68 z.B
           refine (rShift_v Y z.B z.m z.d _ _ _ HY.out (by omega) cd hzd (by omega)).mono ?_
           rintro e w6 ⟨A2, c2, rfl, r2, k2, hb⟩
           replace HB := HB.trans (hb.mono HB.size)
           replace kz := kz.below hb
           replace hzn := hzn.below hb
           replace hzd := hzd.below hb
           replace r1 := r1.below hb
           clear hb q0 q1 q2 g0 g1 g2
           obtain ⟨q0, q1, q2, g0, g1, g2⟩ := kz.facts)
        | (go_at_call_of 62 A1
           refine (rCmp_w X Y A1 A2 _ _ c1 c2 _ _ _ (val_lim _) (val_lim _) (by omega) (by omega) k1 k2 r1 r2).mono ?_
           rintro e w7 ⟨rfl, hb⟩
           replace HB := HB.trans (hb.mono HB.size)
           replace kz := kz.below hb
           replace hzn := hzn.below hb
           replace hzd := hzd.below hb
           clear r1 r2 k1 k2
           clear hb q0 q1 q2 g0 g1 g2
           obtain ⟨q0, q1, q2, g0, g1, g2⟩ := kz.facts))
    all_goals (
      go_wp2_with fail
      go_meet
      exact ⟨rfl, Lib.hid ⟨kz, hzn, hzd, HB⟩⟩)
  obtain ⟨rfl, HC⟩ := hcut
  clear kz hzn hzd HB
  obtain ⟨kz, hzn, hzd, HB⟩ := HC.out
  obtain ⟨q0, q1, q2, g0, g1, g2⟩ := kz.facts
  clear HC
  clear HX HY l1 l2 hwP hwN
  by_cases hXY : X < Y
  · have hL : (lg x y : Int) = (P - 1) + 4096 := by rw [HL.out, if_pos hXY]; omega
    rw [cmpI_lt hXY]
    clear hXY HL
    by_cases hbig : 5120 ≤ lg x y
    · have f1 : 1023 < (P - 1) := by omega
      have hI := hinf.out hbig
      clear hL hbig hinf hdu hD63 hDle
      have E2 : Hid (tof r = infb z.s) := by
        show _ = _
        rw [ET.out, hI, if_neg (by decide)]
        unfold infb
        cases z.s <;> rfl
      clear ET
      generalize z.s = s at *
      cases s
      · go_wp2_with fail
        refine (sign_c false _).mono ?_
        rintro e w9 ⟨rfl, rfl⟩
        go_wp2_with fail
        refine (Inf_p _).mono ?_
        rintro e w9 ⟨rfl, rfl⟩
        go_wp2
        go_ret
        exact ⟨by rw [E2.out]; rfl, HB⟩
      · go_wp2_with fail
        refine (sign_c true _).mono ?_
        rintro e w9 ⟨rfl, rfl⟩
        go_wp2_with fail
        refine (Inf_m _).mono ?_
        rintro e w9 ⟨rfl, rfl⟩
        go_wp2
        go_ret
        exact ⟨by rw [E2.out]; rfl, HB⟩
    · obtain ⟨i, E, hi, hiE, hE, hdbl, hcnt, hpos, hlead⟩ := hdu.out hbig
      have f1 : (P - 1) ≤ 1023 := by omega
      rw [hL] at hi
      have hi2 : max (P - 1) (-1022) - 52 = i := by omega
      have i0 : -1074 ≤ i ∧ i ≤ 971 := by omega
      have HD : Hid (dbl x y = 4503599627370496 * E + rq (x * 2 ^ (-i).toNat) (y * 2 ^ i.toNat)) := hdbl
      have HI := Lib.hid hiE
      have HLead := Lib.hid hlead
      clear hdbl hbig hi hL hiE hinf hdu hlead
      obtain ⟨X2, hX2⟩ : ∃ X, X = x * 2 ^ (-i).toNat := ⟨_, rfl⟩
      obtain ⟨Y2, hY2⟩ : ∃ Y, Y = y * 2 ^ i.toNat := ⟨_, rfl⟩
      have HX2 : Hid (sh (val (lim x)) (max 0 (-i)) = X2) := by
        show _ = _
        rw [val_lim, sh_up (by omega) (by omega), hX2]
        congr 2
        omega
      have HY2 : Hid (sh (val (lim y)) (max 0 i) = Y2) := by
        show _ = _
        rw [val_lim, sh_up (by omega) (by omega), hY2]
        congr 2
        omega
      have l1 : (lim X2).length ≤ 160 := by rw [hX2]; have := (bx'.out.mul (Bd.pow (k := (-i).toNat) (p := 34) (by omega))).len; omega
      have l2 : (lim Y2).length ≤ 160 := by rw [hY2]; have := (by'.out.mul (Bd.pow (k := i.toNat) (p := 34) (by omega))).len; omega
      rw [← hX2, ← hY2] at HD HLead hcnt
      rw [← hY2] at hpos
      clear hX2 hY2 bx' by' hE
      obtain ⟨C, hC⟩ : ∃ C, C = rq X2 Y2 := ⟨_, rfl⟩
      have lC : (lim C).length ≤ 2 := lim_len_lt (by have : (4294967296 : Nat) ^ 2 = 18446744073709551616 := rfl; omega)
      rw [← hC] at HD HLead hcnt
      have HC := Lib.hid hC.symm
      clear hC
      go_wp2_with fail
      have hwi : IntKind.i64.wrap i = i := wrap_id (by omega)
      have hwn : IntKind.i64.wrap (-i) = -i := wrap_id (by omega)
      try rw [hi2]
      clear hi2 f1 q0 q1 q2 g0 g1 g2
      go_cut [7, 8] (fun v vb wx => v = .int .u64 (C : Int) ∧ vb = .bool true ∧ Hid (C3 wx zb (.bool z.s) (.slice z.A z.n z.c) (.slice z.B z.m z.d) ∧ Below w.heap.size w wx))
      case first =>
        obtain ⟨q0, q1, q2, g0, g1, g2⟩ := kz.facts
        replace kz := kz.drew
        replace hzn := hzn.drew
        replace hzd := hzd.drew
        replace HB := HB.drew
        go_region_held3 (fun w' => w'.cell? ⟨zb, 1, none⟩ = some (.slice z.A z.n z.c) ∧ w'.cell? ⟨zb, 2, none⟩ = some (.slice z.B z.m z.d)) (go_keep)
            (first
            | (go_at_call_of 68 z.A
               refine (rShift_v X2 z.A z.n z.c _ _ _ HX2.out (by omega) cn hzn (by omega)).mono ?_
               rintro e w5 ⟨A1, c1, rfl, r1, k1, hb⟩
               replace HB := HB.trans (hb.mono HB.size)
               replace kz := kz.below hb
               replace hzn := hzn.below hb
               replace hzd := hzd.below hb
               clear hb q0 q1 q2 g0 g1 g2
               obtain ⟨q0, q1, q2, g0, g1, g2⟩ := kz.facts)
            | (go_at_call_of 68 z.B
               refine (rShift_v Y2 z.B z.m z.d _ _ _ HY2.out (by omega) cd hzd (by omega)).mono ?_
               rintro e w6 ⟨A2, c2, rfl, r2, k2, hb⟩
               replace HB := HB.trans (hb.mono HB.size)
               replace kz := kz.below hb
               replace hzn := hzn.below hb
               replace hzd := hzd.below hb
               replace r1 := r1.below hb
               clear hb q0 q1 q2 g0 g1 g2
               obtain ⟨q0, q1, q2, g0, g1, g2⟩ := kz.facts)
            | (go_at_call_of 77 A1
               refine (rnear_v C A1 A2 _ _ c1 c2 X2 Y2 _ _ _ HC.out (by omega) (by omega) k1 k2 r1 r2 (val_lim _) (val_lim _) hpos).mono ?_
               rintro e w7 ⟨A3, c3, rfl, r3, k3, hb⟩
               replace HB := HB.trans (hb.mono HB.size)
               replace kz := kz.below hb
               replace hzn := hzn.below hb
               replace hzd := hzd.below hb
               clear r1 r2 k1 k2
               clear hb q0 q1 q2 g0 g1 g2
               obtain ⟨q0, q1, q2, g0, g1, g2⟩ := kz.facts)
            | (go_at_call_of 76 A3
               refine (rTo_v C A3 _ c3 _ _ (val_lim _) (by omega) k3 r3 lC).mono ?_
               rintro e w8 ⟨rfl, hb⟩
               replace HB := HB.trans (hb.mono HB.size)
               replace kz := kz.below hb
               replace hzn := hzn.below hb
               replace hzd := hzd.below hb
               clear r3 k3
               clear hb q0 q1 q2 g0 g1 g2
               obtain ⟨q0, q1, q2, g0, g1, g2⟩ := kz.facts))
        all_goals (
          go_wp2_with fail
          go_meet
          exact ⟨rfl, rfl, Lib.hid ⟨kz, HB⟩⟩)
      obtain ⟨rfl, rfl, HC2⟩ := hcut
      clear kz hzn hzd HB
      obtain ⟨kz, HB⟩ := HC2.out
      obtain ⟨q0, q1, q2, g0, g1, g2⟩ := kz.facts
      clear HC2
      clear HC hwi hwn l1 l2 HX2 HY2 hpos lC kz cn cd hnl hml
      by_cases hC0 : C = 0
      · have hE0 : E = 0 := by
          rcases Nat.eq_zero_or_pos E with h | h
          · exact h
          · have := HLead.out (by omega); omega
        have E2 : Hid (tof r = 0) := by
          show _ = _
          rw [ET.out, if_pos]
          rw [HD.out, hE0, hC0]
        subst hC0
        clear ET HD HI HLead hD63 hDle hE0 hcnt hfr
        go_wp2
        go_ret
        exact ⟨by rw [E2.out]; rfl, HB⟩
      · have hC1 : ((C : Int) == 0) = false := by rw [beq_eq_false_iff_ne]; omega
        have hV0 : C ≠ 0 := hC0
        clear hC0
        by_cases hCl : C < 4503599627370496
        · have hCi : (C : Int) < 4503599627370496 := by omega
          have hE0 : E = 0 := by
            rcases Nat.eq_zero_or_pos E with h | h
            · exact h
            · have := HLead.out (by omega); omega
          have hlt63 : C < 9223372036854775808 := by omega
          have hDC : dbl x y = C := by rw [HD.out, hE0]; exact Nat.zero_add C
          have f2 : (C : Int) < 9218868437227405312 := by omega
          clear HD HI HLead hD63 hDle hE0 hcnt hCl
          have hV : dbl x y = C := hDC
          rw [hV] at ET
          obtain ⟨S, hS⟩ : ∃ S, S = 9223372036854775808 + C := ⟨_, rfl⟩
          have hor : bits BinOp.or IntKind.u64 (C : Int) 9223372036854775808 = (S : Int) := by rw [hS]; exact or_sign hlt63
          have HS := Lib.hid hS
          have ET2 := Lib.hid ET.out
          have hz : 0 ≤ (C : Int) := by omega
          have hz2 : ((C : Nat) : Int).toNat = C := by omega
          have hw : 0 ≤ (S : Int) := by omega
          have hw2 : ((S : Nat) : Int).toNat = S := by omega
          clear hS hV ET hDC
          cases hs : z.s
          · have E2 : Hid (tof r = C) := by
              show _ = _
              have E1 := ET2.out
              rw [if_neg hV0, hs] at E1
              exact E1.trans (Nat.zero_add C)
            rw [hs] at q0
            clear ET2 hV0 HS hor hs hw hw2 hlt63
            generalize ((C : Nat) : Int) = cz at *
            go_wp2_with fail
            go_ret
            exact ⟨by rw [E2.out]; rfl, HB⟩
          · have E2 : Hid (tof r = S) := by
              show _ = _
              have E1 := ET2.out
              rw [if_neg hV0, hs, if_pos rfl] at E1
              rw [HS.out]
              exact E1
            rw [hs] at q0
            clear ET2 hV0 HS hs hz2 hlt63
            generalize ((C : Nat) : Int) = cz at *
            go_wp2_with fail
            go_ret
            exact ⟨by rw [E2.out]; rfl, HB⟩
        · have hCi : 4503599627370496 ≤ (C : Int) := by omega
          have e1 : i + 1074 = (E : Int) := by have := HI.out; omega
          have hE : E ≤ 2045 := by omega
          have HDv := Lib.hid HD.out
          obtain ⟨D, hD⟩ : ∃ D, D = dbl x y := ⟨_, rfl⟩
          rw [← hD] at HDv hD63 hDle
          have hDC : (E : Int) * 4503599627370496 + (C : Int) = (D : Int) := by have := HDv.out; omega
          have hV0 : D ≠ 0 := by have := HDv.out; omega
          have hlt63 := hD63.out
          have hDl := hDle.out
          clear HD HDv HI HLead hD63 hDle hcnt hCl
          by_cases hDI : D = 9218868437227405312
          · have f2 : (E : Int) * 4503599627370496 + (C : Int) = 9218868437227405312 := by omega
            have HDI : Hid (dbl x y = 9218868437227405312) := by rw [← hD]; exact hDI
            clear hDC hDI hlt63 hDl hV0 hD
            have E2 : Hid (tof r = infb z.s) := by
              show _ = _
              rw [ET.out, HDI.out, if_neg (by decide)]
              unfold infb
              cases z.s <;> rfl
            clear ET
            generalize z.s = s at *
            cases s
            · go_wp2_with fail
              refine (sign_c false _).mono ?_
              rintro e w9 ⟨rfl, rfl⟩
              go_wp2_with fail
              refine (Inf_p _).mono ?_
              rintro e w9 ⟨rfl, rfl⟩
              go_wp2
              go_ret
              exact ⟨by rw [E2.out]; rfl, HB⟩
            · go_wp2_with fail
              refine (sign_c true _).mono ?_
              rintro e w9 ⟨rfl, rfl⟩
              go_wp2_with fail
              refine (Inf_m _).mono ?_
              rintro e w9 ⟨rfl, rfl⟩
              go_wp2
              go_ret
              exact ⟨by rw [E2.out]; rfl, HB⟩
          · have f2 : (D : Int) < 9218868437227405312 := by omega
            clear hDI hDl
            have hV : dbl x y = D := hD.symm
            rw [hV] at ET
            obtain ⟨S, hS⟩ : ∃ S, S = 9223372036854775808 + D := ⟨_, rfl⟩
            have hor : bits BinOp.or IntKind.u64 (D : Int) 9223372036854775808 = (S : Int) := by rw [hS]; exact or_sign hlt63
            have HS := Lib.hid hS
            have ET2 := Lib.hid ET.out
            have hz : 0 ≤ (D : Int) := by omega
            have hz2 : ((D : Nat) : Int).toNat = D := by omega
            have hw : 0 ≤ (S : Int) := by omega
            have hw2 : ((S : Nat) : Int).toNat = S := by omega
            clear hS hV ET hD
            cases hs : z.s
            · have E2 : Hid (tof r = D) := by
                show _ = _
                have E1 := ET2.out
                rw [if_neg hV0, hs] at E1
                exact E1.trans (Nat.zero_add D)
              rw [hs] at q0
              clear ET2 hV0 HS hor hs hw hw2 hlt63
              generalize ((D : Nat) : Int) = cz at *
              go_wp2_with fail
              go_ret
              exact ⟨by rw [E2.out]; rfl, HB⟩
            · have E2 : Hid (tof r = S) := by
                show _ = _
                have E1 := ET2.out
                rw [if_neg hV0, hs, if_pos rfl] at E1
                rw [HS.out]
                exact E1
              rw [hs] at q0
              clear ET2 hV0 HS hs hz2 hlt63
              generalize ((D : Nat) : Int) = cz at *
              go_wp2_with fail
              go_ret
              exact ⟨by rw [E2.out]; rfl, HB⟩
  · have hL : (lg x y : Int) = P + 4096 := by rw [HL.out, if_neg hXY]; omega
    have hc0 : ¬ cmpI X Y < 0 := by unfold cmpI; rw [if_neg hXY]; split <;> omega
    generalize cmpI X Y = zz at *
    clear hXY HL
    by_cases hbig : 5120 ≤ lg x y
    · have f1 : 1023 < P := by omega
      have hI := hinf.out hbig
      clear hL hbig hinf hdu hD63 hDle
      have E2 : Hid (tof r = infb z.s) := by
        show _ = _
        rw [ET.out, hI, if_neg (by decide)]
        unfold infb
        cases z.s <;> rfl
      clear ET
      generalize z.s = s at *
      cases s
      · go_wp2_with fail
        refine (sign_c false _).mono ?_
        rintro e w9 ⟨rfl, rfl⟩
        go_wp2_with fail
        refine (Inf_p _).mono ?_
        rintro e w9 ⟨rfl, rfl⟩
        go_wp2
        go_ret
        exact ⟨by rw [E2.out]; rfl, HB⟩
      · go_wp2_with fail
        refine (sign_c true _).mono ?_
        rintro e w9 ⟨rfl, rfl⟩
        go_wp2_with fail
        refine (Inf_m _).mono ?_
        rintro e w9 ⟨rfl, rfl⟩
        go_wp2
        go_ret
        exact ⟨by rw [E2.out]; rfl, HB⟩
    · obtain ⟨i, E, hi, hiE, hE, hdbl, hcnt, hpos, hlead⟩ := hdu.out hbig
      have f1 : P ≤ 1023 := by omega
      rw [hL] at hi
      have hi2 : max P (-1022) - 52 = i := by omega
      have i0 : -1074 ≤ i ∧ i ≤ 971 := by omega
      have HD : Hid (dbl x y = 4503599627370496 * E + rq (x * 2 ^ (-i).toNat) (y * 2 ^ i.toNat)) := hdbl
      have HI := Lib.hid hiE
      have HLead := Lib.hid hlead
      clear hdbl hbig hi hL hiE hinf hdu hlead
      obtain ⟨X2, hX2⟩ : ∃ X, X = x * 2 ^ (-i).toNat := ⟨_, rfl⟩
      obtain ⟨Y2, hY2⟩ : ∃ Y, Y = y * 2 ^ i.toNat := ⟨_, rfl⟩
      have HX2 : Hid (sh (val (lim x)) (max 0 (-i)) = X2) := by
        show _ = _
        rw [val_lim, sh_up (by omega) (by omega), hX2]
        congr 2
        omega
      have HY2 : Hid (sh (val (lim y)) (max 0 i) = Y2) := by
        show _ = _
        rw [val_lim, sh_up (by omega) (by omega), hY2]
        congr 2
        omega
      have l1 : (lim X2).length ≤ 160 := by rw [hX2]; have := (bx'.out.mul (Bd.pow (k := (-i).toNat) (p := 34) (by omega))).len; omega
      have l2 : (lim Y2).length ≤ 160 := by rw [hY2]; have := (by'.out.mul (Bd.pow (k := i.toNat) (p := 34) (by omega))).len; omega
      rw [← hX2, ← hY2] at HD HLead hcnt
      rw [← hY2] at hpos
      clear hX2 hY2 bx' by' hE
      obtain ⟨C, hC⟩ : ∃ C, C = rq X2 Y2 := ⟨_, rfl⟩
      have lC : (lim C).length ≤ 2 := lim_len_lt (by have : (4294967296 : Nat) ^ 2 = 18446744073709551616 := rfl; omega)
      rw [← hC] at HD HLead hcnt
      have HC := Lib.hid hC.symm
      clear hC
      go_wp2_with fail
      have hwi : IntKind.i64.wrap i = i := wrap_id (by omega)
      have hwn : IntKind.i64.wrap (-i) = -i := wrap_id (by omega)
      try rw [hi2]
      clear hi2 f1 hc0 q0 q1 q2 g0 g1 g2
      go_cut [7, 8] (fun v vb wx => v = .int .u64 (C : Int) ∧ vb = .bool true ∧ Hid (C3 wx zb (.bool z.s) (.slice z.A z.n z.c) (.slice z.B z.m z.d) ∧ Below w.heap.size w wx))
      case first =>
        obtain ⟨q0, q1, q2, g0, g1, g2⟩ := kz.facts
        replace kz := kz.drew
        replace hzn := hzn.drew
        replace hzd := hzd.drew
        replace HB := HB.drew
        go_region_held3 (fun w' => w'.cell? ⟨zb, 1, none⟩ = some (.slice z.A z.n z.c) ∧ w'.cell? ⟨zb, 2, none⟩ = some (.slice z.B z.m z.d)) (go_keep)
            (first
            | (go_at_call_of 68 z.A
               refine (rShift_v X2 z.A z.n z.c _ _ _ HX2.out (by omega) cn hzn (by omega)).mono ?_
               rintro e w5 ⟨A1, c1, rfl, r1, k1, hb⟩
               replace HB := HB.trans (hb.mono HB.size)
               replace kz := kz.below hb
               replace hzn := hzn.below hb
               replace hzd := hzd.below hb
               clear hb q0 q1 q2 g0 g1 g2
               obtain ⟨q0, q1, q2, g0, g1, g2⟩ := kz.facts)
            | (go_at_call_of 68 z.B
               refine (rShift_v Y2 z.B z.m z.d _ _ _ HY2.out (by omega) cd hzd (by omega)).mono ?_
               rintro e w6 ⟨A2, c2, rfl, r2, k2, hb⟩
               replace HB := HB.trans (hb.mono HB.size)
               replace kz := kz.below hb
               replace hzn := hzn.below hb
               replace hzd := hzd.below hb
               replace r1 := r1.below hb
               clear hb q0 q1 q2 g0 g1 g2
               obtain ⟨q0, q1, q2, g0, g1, g2⟩ := kz.facts)
            | (go_at_call_of 77 A1
               refine (rnear_v C A1 A2 _ _ c1 c2 X2 Y2 _ _ _ HC.out (by omega) (by omega) k1 k2 r1 r2 (val_lim _) (val_lim _) hpos).mono ?_
               rintro e w7 ⟨A3, c3, rfl, r3, k3, hb⟩
               replace HB := HB.trans (hb.mono HB.size)
               replace kz := kz.below hb
               replace hzn := hzn.below hb
               replace hzd := hzd.below hb
               clear r1 r2 k1 k2
               clear hb q0 q1 q2 g0 g1 g2
               obtain ⟨q0, q1, q2, g0, g1, g2⟩ := kz.facts)
            | (go_at_call_of 76 A3
               refine (rTo_v C A3 _ c3 _ _ (val_lim _) (by omega) k3 r3 lC).mono ?_
               rintro e w8 ⟨rfl, hb⟩
               replace HB := HB.trans (hb.mono HB.size)
               replace kz := kz.below hb
               replace hzn := hzn.below hb
               replace hzd := hzd.below hb
               clear r3 k3
               clear hb q0 q1 q2 g0 g1 g2
               obtain ⟨q0, q1, q2, g0, g1, g2⟩ := kz.facts))
        all_goals (
          go_wp2_with fail
          go_meet
          exact ⟨rfl, rfl, Lib.hid ⟨kz, HB⟩⟩)
      obtain ⟨rfl, rfl, HC2⟩ := hcut
      clear kz hzn hzd HB
      obtain ⟨kz, HB⟩ := HC2.out
      obtain ⟨q0, q1, q2, g0, g1, g2⟩ := kz.facts
      clear HC2
      clear HC hwi hwn l1 l2 HX2 HY2 hpos lC kz cn cd hnl hml
      by_cases hC0 : C = 0
      · have hE0 : E = 0 := by
          rcases Nat.eq_zero_or_pos E with h | h
          · exact h
          · have := HLead.out (by omega); omega
        have E2 : Hid (tof r = 0) := by
          show _ = _
          rw [ET.out, if_pos]
          rw [HD.out, hE0, hC0]
        subst hC0
        clear ET HD HI HLead hD63 hDle hE0 hcnt hfr
        go_wp2
        go_ret
        exact ⟨by rw [E2.out]; rfl, HB⟩
      · have hC1 : ((C : Int) == 0) = false := by rw [beq_eq_false_iff_ne]; omega
        have hV0 : C ≠ 0 := hC0
        clear hC0
        by_cases hCl : C < 4503599627370496
        · have hCi : (C : Int) < 4503599627370496 := by omega
          have hE0 : E = 0 := by
            rcases Nat.eq_zero_or_pos E with h | h
            · exact h
            · have := HLead.out (by omega); omega
          have hlt63 : C < 9223372036854775808 := by omega
          have hDC : dbl x y = C := by rw [HD.out, hE0]; exact Nat.zero_add C
          have f2 : (C : Int) < 9218868437227405312 := by omega
          clear HD HI HLead hD63 hDle hE0 hcnt hCl
          have hV : dbl x y = C := hDC
          rw [hV] at ET
          obtain ⟨S, hS⟩ : ∃ S, S = 9223372036854775808 + C := ⟨_, rfl⟩
          have hor : bits BinOp.or IntKind.u64 (C : Int) 9223372036854775808 = (S : Int) := by rw [hS]; exact or_sign hlt63
          have HS := Lib.hid hS
          have ET2 := Lib.hid ET.out
          have hz : 0 ≤ (C : Int) := by omega
          have hz2 : ((C : Nat) : Int).toNat = C := by omega
          have hw : 0 ≤ (S : Int) := by omega
          have hw2 : ((S : Nat) : Int).toNat = S := by omega
          clear hS hV ET hDC
          cases hs : z.s
          · have E2 : Hid (tof r = C) := by
              show _ = _
              have E1 := ET2.out
              rw [if_neg hV0, hs] at E1
              exact E1.trans (Nat.zero_add C)
            rw [hs] at q0
            clear ET2 hV0 HS hor hs hw hw2 hlt63
            generalize ((C : Nat) : Int) = cz at *
            go_wp2_with fail
            go_ret
            exact ⟨by rw [E2.out]; rfl, HB⟩
          · have E2 : Hid (tof r = S) := by
              show _ = _
              have E1 := ET2.out
              rw [if_neg hV0, hs, if_pos rfl] at E1
              rw [HS.out]
              exact E1
            rw [hs] at q0
            clear ET2 hV0 HS hs hz2 hlt63
            generalize ((C : Nat) : Int) = cz at *
            go_wp2_with fail
            go_ret
            exact ⟨by rw [E2.out]; rfl, HB⟩
        · have hCi : 4503599627370496 ≤ (C : Int) := by omega
          have e1 : i + 1074 = (E : Int) := by have := HI.out; omega
          have hE : E ≤ 2045 := by omega
          have HDv := Lib.hid HD.out
          obtain ⟨D, hD⟩ : ∃ D, D = dbl x y := ⟨_, rfl⟩
          rw [← hD] at HDv hD63 hDle
          have hDC : (E : Int) * 4503599627370496 + (C : Int) = (D : Int) := by have := HDv.out; omega
          have hV0 : D ≠ 0 := by have := HDv.out; omega
          have hlt63 := hD63.out
          have hDl := hDle.out
          clear HD HDv HI HLead hD63 hDle hcnt hCl
          by_cases hDI : D = 9218868437227405312
          · have f2 : (E : Int) * 4503599627370496 + (C : Int) = 9218868437227405312 := by omega
            have HDI : Hid (dbl x y = 9218868437227405312) := by rw [← hD]; exact hDI
            clear hDC hDI hlt63 hDl hV0 hD
            have E2 : Hid (tof r = infb z.s) := by
              show _ = _
              rw [ET.out, HDI.out, if_neg (by decide)]
              unfold infb
              cases z.s <;> rfl
            clear ET
            generalize z.s = s at *
            cases s
            · go_wp2_with fail
              refine (sign_c false _).mono ?_
              rintro e w9 ⟨rfl, rfl⟩
              go_wp2_with fail
              refine (Inf_p _).mono ?_
              rintro e w9 ⟨rfl, rfl⟩
              go_wp2
              go_ret
              exact ⟨by rw [E2.out]; rfl, HB⟩
            · go_wp2_with fail
              refine (sign_c true _).mono ?_
              rintro e w9 ⟨rfl, rfl⟩
              go_wp2_with fail
              refine (Inf_m _).mono ?_
              rintro e w9 ⟨rfl, rfl⟩
              go_wp2
              go_ret
              exact ⟨by rw [E2.out]; rfl, HB⟩
          · have f2 : (D : Int) < 9218868437227405312 := by omega
            clear hDI hDl
            have hV : dbl x y = D := hD.symm
            rw [hV] at ET
            obtain ⟨S, hS⟩ : ∃ S, S = 9223372036854775808 + D := ⟨_, rfl⟩
            have hor : bits BinOp.or IntKind.u64 (D : Int) 9223372036854775808 = (S : Int) := by rw [hS]; exact or_sign hlt63
            have HS := Lib.hid hS
            have ET2 := Lib.hid ET.out
            have hz : 0 ≤ (D : Int) := by omega
            have hz2 : ((D : Nat) : Int).toNat = D := by omega
            have hw : 0 ≤ (S : Int) := by omega
            have hw2 : ((S : Nat) : Int).toNat = S := by omega
            clear hS hV ET hD
            cases hs : z.s
            · have E2 : Hid (tof r = D) := by
                show _ = _
                have E1 := ET2.out
                rw [if_neg hV0, hs] at E1
                exact E1.trans (Nat.zero_add D)
              rw [hs] at q0
              clear ET2 hV0 HS hor hs hw hw2 hlt63
              generalize ((D : Nat) : Int) = cz at *
              go_wp2_with fail
              go_ret
              exact ⟨by rw [E2.out]; rfl, HB⟩
            · have E2 : Hid (tof r = S) := by
                show _ = _
                have E1 := ET2.out
                rw [if_neg hV0, hs, if_pos rfl] at E1
                rw [HS.out]
                exact E1
              rw [hs] at q0
              clear ET2 hV0 HS hs hz2 hlt63
              generalize ((D : Nat) : Int) = cz at *
              go_wp2_with fail
              go_ret
              exact ⟨by rw [E2.out]; rfl, HB⟩

theorem rTo_c (v : Rv) (r : Rat) (w : World) (hv : Rw w v r 120) :
    Calls Try.prog 41 #[.agg #[.bool v.s, .slice v.A v.n v.c, .slice v.B v.m v.d]] w fun e w' => e = .returned (.float .f64 (tof r)) ∧ Below w.heap.size w w' := by
  by_cases h0 : r = 0
  · have := rTo_zero v r w (hv.more (by omega)) h0
    rw [show tof r = 0 by subst h0; rfl]
    exact this
  · exact rTo_pos v r w hv h0
end Go.Proofs.Ytmehlbdlllkcgaa

namespace Go.Proofs.Ytmehlbdlllkcgaa
set_option maxRecDepth 20000
open Go.RowKit

set_option maxHeartbeats 400000 in
theorem limbs4_yes (A A' : Option Addr) (n c c' : Nat) (l : List Nat) (w : World) (hn : n ≤ 1000000) (hr : Row w 0 A n l) (hr' : Row w 0 A' n l) :
    Calls Try.prog 70 #[.slice A n c, .slice A' n c'] w fun e w' => e = .returned (.bool true) ∧ ∃ q, w' = w.drewN q := by
  go_enter Try.func70, Try.ntmps70
  go_wp2
  go_loopw [5] (fun i wr => ∃ k q : Nat, k ≤ n ∧ i = .int .i64 k ∧ wr = w.drewN q) (fun i _ => n - (intOf i).toNat)
  case atStart => exact ⟨0, 0, Nat.zero_le _, rfl, rfl⟩
  case round =>
    obtain ⟨k, q, hk, rfl, rfl⟩ := hrel
    by_cases h0 : k < n
    · obtain ⟨b, off, rfl, h1, h2, hc⟩ := hr.mem (by omega)
      obtain ⟨b', off', rfl, h1', h2', hc'⟩ := hr'.mem (by omega)
      have hc0 := hc k h0
      have hc0' := hc' k h0
      clear hc hc' hr hr'
      generalize dg l k = x at *
      go_wp2
      go_quiet (fail)
      go_wp2
      go_roundw
      case rel => exact ⟨k + 1, _, by omega, by go_num, rfl⟩
      case measure => simp [intOf]; omega
    · clear hr hr'
      go_wp2
      go_ret
      exact ⟨rfl, q, rfl⟩

theorem limbs4_eq (A A' : Option Addr) (n n' c c' : Nat) (l l' : List Nat) (w : World) (hn : n ≤ 1000000) (hr : Row w 0 A n l) (hr' : Row w 0 A' n' l') (hl : l = l') :
    Calls Try.prog 70 #[.slice A n c, .slice A' n' c'] w fun e w' => e = .returned (.bool true) ∧ Below w.heap.size w w' := by
  subst hl
  have e : n' = n := by rw [← hr.len, ← hr'.len]
  subst e
  refine (limbs4_yes A A' n' c c' l w hn hr hr').mono ?_
  rintro e w' ⟨rfl, q, rfl⟩
  exact ⟨rfl, rfl, rfl, rfl, Nat.le_refl _, fun _ _ => rfl⟩

set_option maxHeartbeats 800000 in
/-- Two normal readings of one number. -/
theorem one4_yes (v u : Rv) (r s : Rat) (w : World) (lo lo' : Nat) (hv : Rt w lo v r) (hu : Rt w lo' u s) (h : r = s) (hn : v.n ≤ 100000) (hm : v.m ≤ 100000) :
    Calls Try.prog 32 #[.agg #[.bool v.s, .slice v.A v.n v.c, .slice v.B v.m v.d], .agg #[.bool u.s, .slice u.A u.n u.c, .slice u.B u.m u.d]] w fun e w' => e = .returned (.bool true) ∧ Below w.heap.size w w' := by
  subst h
  obtain ⟨h0, h1, h2, h3, h4, h5, h6⟩ := hv
  obtain ⟨g0, g1, g2, g3, g4, g5, g6⟩ := hu
  have hss : v.s = u.s := by rw [h0, g0]
  have hsb : (v.s == u.s) = true := by rw [hss]; simp
  clear h0 g0 h1 g1 h4 g4 hss
  replace h3 := h3.lower (Nat.zero_le lo)
  replace g3 := g3.lower (Nat.zero_le lo')
  replace h6 := h6.lower (Nat.zero_le lo)
  replace g6 := g6.lower (Nat.zero_le lo')
  go_enter Try.func32, Try.ntmps32
  go_wp2_with fail
  generalize hW : ((w.alloc (.cells #[.bool v.s, .slice v.A v.n v.c, .slice v.B v.m v.d] 24)).alloc (.cells #[.bool u.s, .slice u.A u.n u.c, .slice u.B u.m u.d] 24)) = W
  obtain ⟨ka, kb, HW, hsW⟩ := open2 w v u W hW
  clear hW
  refine (limbs4_eq v.A u.A v.n u.n v.c u.c _ _ _ (by omega) (h3.below HW) (g3.below HW) rfl).mono ?_
  rintro e w1 ⟨rfl, hb1⟩
  replace ka := ka.below hb1
  replace kb := kb.below hb1
  replace HW := HW.trans (hb1.mono (by omega))
  obtain ⟨a0, a1, a2, a3, a4, a5⟩ := ka.facts
  obtain ⟨b0, b1, b2, b3, b4, b5⟩ := kb.facts
  have hs1 := hb1.size
  clear hb1
  go_wp2_with fail
  refine (limbs4_eq v.B u.B v.m u.m v.d u.d _ _ _ (by omega) (h6.below HW) (g6.below HW) rfl).mono ?_
  rintro e w2 ⟨rfl, hb2⟩
  replace HW := HW.trans (hb2.mono (by omega))
  clear hb2
  go_wp2
  go_ret
  exact ⟨rfl, HW⟩


set_option maxHeartbeats 1600000 in
theorem big4_any (f : Nat → Rv) (g k : Nat) (w : World) (hk : k ≤ 10) (hlen : ∀ i, i < k → (f i).n ≤ 1000000000000000 ∧ (f i).m ≤ 1000000000000000)
    (hc : ∀ i, i < k → w.cell? ⟨g, i * 3 + 1, none⟩ = some (.slice (f i).A (f i).n (f i).c) ∧ w.cell? ⟨g, i * 3 + 2, none⟩ = some (.slice (f i).B (f i).m (f i).d)) :
    Calls Try.prog 36 #[.slice (some ⟨g, 0, none⟩) k k] w fun e w' => e = .returned (.bool (decide (16 < tot f k))) ∧ Below w.heap.size w w' := by
  have HC := Lib.hid hc
  have HL := Lib.hid hlen
  clear hc hlen
  go_enter Try.func36, Try.ntmps36
  go_wp2
  go_loopw [3, 4] (fun nv iv wr => ∃ i q : Nat, i ≤ k ∧ nv = .int .i64 (tot f i) ∧ iv = .int .i64 i ∧ wr = w.drewN q ∧ tot f i ≤ 16) (fun _ iv _ => k - (intOf iv).toNat)
  case atStart => exact ⟨0, 0, Nat.zero_le _, rfl, rfl, rfl, by simp [tot]⟩
  case round =>
    obtain ⟨i, q, hi, rfl, rfl, rfl, ht⟩ := hrel
    by_cases h0 : i < k
    · obtain ⟨hc1, hc2⟩ := HC.out i h0
      obtain ⟨hl1, hl2⟩ := HL.out i h0
      have ht' := tot_succ f i
      have hmon := Lib.hid (tot_mono f (show i + 1 ≤ k from h0))
      generalize (f i).n = n1 at *
      generalize (f i).m = m1 at *
      generalize (f i).c = c1 at *
      generalize (f i).d = d1 at *
      have hT : Hid (tot f (i + 1) = tot f i + n1 + m1) := ht'
      clear ht'
      generalize htt : tot f i = t at *
      have HT := Lib.hid htt
      clear htt
      go_wp2
      go_quiet (fail)
      go_wp2
      · go_ret
        refine ⟨?_, below_drewN' _ _ _⟩
        have h1 := hmon.out
        have h2 := hT.out
        rw [decide_eq_true (show 16 < tot f k by omega)]; rfl
      · have h2 := hT.out
        refine ⟨⟨i + 1, _, by omega, ?_, by simp, rfl, by omega⟩, by simp [intOf]; omega⟩
        rw [h2]; simp
    · have e : i = k := by omega
      have HE := Lib.hid e
      have HT := Lib.hid ht
      clear e ht
      go_wp2
      go_ret
      refine ⟨?_, below_drewN' _ _ _⟩
      have h1 := HT.out
      rw [HE.out] at h1
      rw [decide_eq_false (show ¬ 16 < tot f k by omega)]; rfl

/-- Is the exponent looked at? -/
def sm (e : Nat) : Bool := decide (e = 2047 ∨ (900 < e ∧ e < 1200) ∨ e = 0)
set_option maxHeartbeats 800000 in
theorem small4_c (u : Nat) (s : Bool) (e m : Nat) (w : World) (h : Parts u s e m) :
    Calls Try.prog 26 #[.float .f64 u] w fun r w' => r = .returned (.bool (sm e)) ∧ w = w' := by
  have hbits := Lib.hid (fun (w : World) => rBits64_c u s e m w h)
  clear h
  unfold sm
  by_cases h1 : e = 2047
  · have f1 : ((e : Int) == 2047) = true := by rw [beq_iff_eq]; omega
    rw [decide_eq_true (.inl h1)]
    clear h1
    go_enter Try.func26, Try.ntmps26
    go_wp2_with fail
    refine (hbits.out _).mono ?_
    rintro r w' ⟨rfl, rfl⟩
    go_wp2
    go_ret
    exact ⟨rfl, rfl⟩
  · have f1 : ((e : Int) == 2047) = false := by rw [beq_eq_false_iff_ne]; omega
    by_cases h2 : e = 0
    · have f2 : ((e : Int) == 0) = true := by rw [beq_iff_eq]; omega
      have f3 : (e : Int) ≤ 900 := by omega
      rw [decide_eq_true (.inr (.inr h2))]
      clear h1 h2
      go_enter Try.func26, Try.ntmps26
      go_wp2_with fail
      refine (hbits.out _).mono ?_
      rintro r w' ⟨rfl, rfl⟩
      go_wp2
      go_ret
      exact ⟨rfl, rfl⟩
    · have f2 : ((e : Int) == 0) = false := by rw [beq_eq_false_iff_ne]; omega
      by_cases h3 : 900 < e
      · have f3 : 900 < (e : Int) := by omega
        by_cases h4 : e < 1200
        · have f4 : (e : Int) < 1200 := by omega
          rw [decide_eq_true (.inr (.inl ⟨h3, h4⟩))]
          clear h1 h2 h3 h4
          go_enter Try.func26, Try.ntmps26
          go_wp2_with fail
          refine (hbits.out _).mono ?_
          rintro r w' ⟨rfl, rfl⟩
          go_wp2
          go_ret
          exact ⟨rfl, rfl⟩
        · have f4 : 1200 ≤ (e : Int) := by omega
          rw [decide_eq_false (by omega)]
          clear h1 h2 h3 h4
          go_enter Try.func26, Try.ntmps26
          go_wp2_with fail
          refine (hbits.out _).mono ?_
          rintro r w' ⟨rfl, rfl⟩
          go_wp2
          go_ret
          refine ⟨?_, rfl⟩
          show Ending.returned (.bool (decide ((e : Int) < 1200))) = _
          rw [decide_eq_false (by omega)]
      · have f3 : (e : Int) ≤ 900 := by omega
        rw [decide_eq_false (by omega)]
        clear h1 h2 h3
        go_enter Try.func26, Try.ntmps26
        go_wp2_with fail
        refine (hbits.out _).mono ?_
        rintro r w' ⟨rfl, rfl⟩
        go_wp2
        go_ret
        exact ⟨rfl, rfl⟩

theorem parts_half : Parts 4602678819172646912 false 1022 0 := ⟨by decide, by omega, by omega⟩
theorem parts_nan : Parts 9221120237041090561 false 2047 2251799813685249 := ⟨by decide, by omega, by omega⟩
theorem parts_mz : Parts 9223372036854775808 true 0 0 := ⟨by decide, by omega, by omega⟩
theorem frq_half : frq false 1022 0 = rn false 1 2 := by
  have h := (unit_high (e := 1022) (m := 0) (by omega) (by omega) (by omega)).val false
  rw [← h, show (((1022 : Nat) : Int) - 1 - 1074).toNat = 0 by omega, show (-(((1022 : Nat) : Int) - 1 - 1074)).toNat = 53 by omega]
  exact rn_scale false (k := 4503599627370496) 1 2 (by omega)

set_option maxHeartbeats 1600000 in
theorem known4_any (w : World) : Calls Try.prog 35 #[] w fun e w' => e = .returned (.bool true) ∧ Below w.heap.size w w' := by
  have hfr := fun n => frombits64 n
  have h1 := Lib.hid (fun (w : World) => From_num _ _ _ _ w parts_half (by omega))
  have h2 : Hid (∀ w : World, Calls Try.prog 27 #[.float .f64 9221120237041090561] w fun r w' => r = .returned (.tuple #[.agg #[.bool false, .slice none 0 0, .slice none 0 0], .int .i64 16]) ∧ Below w.heap.size w w') := by
    intro w
    have h := From_err _ _ _ _ w parts_nan rfl
    rw [if_pos (by omega)] at h
    exact h
  have h3 : Hid (∀ w : World, Calls Try.prog 33 #[.float .f64 9223372036854775808] w fun r w' => r = .returned (.int .i64 2) ∧ w = w') := by
    intro w
    have h := Kind_c _ _ _ _ w parts_mz
    rw [show kd true 0 0 = 2 from rfl] at h
    exact h
  go_enter Try.func35, Try.ntmps35
  go_wp2_with fail
  refine (h1.out _).mono ?_
  rintro e w1 ⟨z, rfl, hz, hb1⟩
  rw [frq_half] at hz
  have k := C3.new w1 (.bool z.s) (.slice z.A z.n z.c) (.slice z.B z.m z.d)
  have hb2 := (Below.refl w1.heap.size w1).alloc (Nat.le_refl _) (.cells #[.bool z.s, .slice z.A z.n z.c, .slice z.B z.m z.d] 24)
  replace hz := hz.below hb2
  have HB := hb1.trans (hb2.mono hb1.size)
  clear hb1 hb2
  go_wp2_with fail
  refine (h2.out _).mono ?_
  rintro e w2 ⟨rfl, hb3⟩
  replace hz := hz.below hb3
  replace k := k.below hb3
  replace HB := HB.trans (hb3.mono HB.size)
  have hb4 := (Below.refl w2.heap.size w2).alloc (Nat.le_refl _) (.cells #[.bool false, .slice none 0 0, .slice none 0 0] 24)
  replace hz := hz.below hb4
  replace k := k.below hb4
  replace HB := HB.trans (hb4.mono HB.size)
  clear hb3 hb4
  have hzs := hz.rw (Sz.lit (x := 1) (y := 2) (by omega) (by omega))
  have hzn := hzs.numLe
  have hzm := hzs.denLe
  obtain ⟨q0, q1, q2, g0, g1, g2⟩ := k.facts
  go_wp2_with fail
  have e3 : (w2.alloc (.cells #[.bool false, .slice none 0 0, .slice none 0 0] 24)).heap.size = w2.heap.size + 1 := by simp
  try simp only [← e3]
  generalize w2.alloc (.cells #[.bool false, .slice none 0 0, .slice none 0 0] 24) = w3 at *
  clear e3
  have r5 : Row ((w3.alloc (.cells #[.int .u32 1] 25)).alloc (.cells #[.int .u32 2] 25)) 0 (some ⟨w3.heap.size, 0, none⟩) 1 [1] := (Row.lit w3 1 1 rfl (by omega)).alloc _
  have e5 : (w3.alloc (.cells #[.int .u32 1] 25)).heap.size = w3.heap.size + 1 := by simp
  have r6 : Row ((w3.alloc (.cells #[.int .u32 1] 25)).alloc (.cells #[.int .u32 2] 25)) 0 (some ⟨w3.heap.size + 1, 0, none⟩) 1 [2] := by
    have := Row.lit (w3.alloc (.cells #[.int .u32 1] 25)) 2 2 rfl (by omega)
    rw [e5] at this; exact this
  have HB5 := (HB.alloc HB.size (.cells #[.int .u32 1] 25)).alloc (by have := HB.size; simp; omega) (.cells #[.int .u32 2] 25)
  have hz5 := (hz.below ((Below.refl _ _).alloc (Nat.le_refl _) (.cells #[.int .u32 1] 25))).below ((Below.refl _ _).alloc (Nat.le_refl _) (.cells #[.int .u32 2] 25))
  have v5 := Rt.lit (w := (w3.alloc (.cells #[.int .u32 1] 25)).alloc (.cells #[.int .u32 2] 25)) (by omega) (by omega) (by omega) (by omega) (by decide) (Nat.le_refl _) (Nat.le_refl _) r5 r6
  refine (one4_yes z ⟨false, some ⟨w3.heap.size, 0, none⟩, 1, 1, some ⟨w3.heap.size + 1, 0, none⟩, 1, 1⟩ _ _ _ _ _ hz5 v5 rfl (by omega) (by omega)).mono ?_
  rintro e w6 ⟨rfl, hb6⟩
  replace HB := HB5.trans (hb6.mono HB5.size)
  clear hb6 HB5 v5 r5 r6 hz hz5 hzs e5 k q0 q1 q2 g0 g1 g2
  go_wp2_with fail
  refine (h3.out _).mono ?_
  rintro e w7 ⟨rfl, rfl⟩
  go_wp2
  go_ret
  exact ⟨rfl, HB⟩
end Go.Proofs.Ytmehlbdlllkcgaa

namespace Go.Proofs.Ytmehlbdlllkcgaa
set_option maxRecDepth 20000
open Go.RowKit

theorem unit_any {e m : Nat} (he : e < 2047) (hm : m < 4503599627370496) : ∃ c p, Unit e m c p := by
  by_cases h : e = 0
  · subst h; exact ⟨_, _, unit_low hm⟩
  · exact ⟨_, _, unit_high h he hm⟩
theorem frq_sz {s : Bool} {e m : Nat} (he : e < 2047) (hm : m < 4503599627370496) : Sz (frq s e m) 40 := by
  obtain ⟨c, p, hU⟩ := unit_any he hm
  have h1 := hU.lo
  have h2 := hU.hi
  have h3 := hU.cnt
  have bc : Bd c 2 := by show c < 4294967296 ^ 2; omega
  have b1 : Bd 1 1 := by show 1 < 4294967296 ^ 1; omega
  exact Sz.ofRn (hU.val s) ((bc.mul (Bd.pow (k := p.toNat) (p := 31) (by omega))).more (by omega)) ((b1.mul (Bd.pow (k := (-p).toNat) (p := 34) (by omega))).more (by omega)) (by omega)
theorem worth_pos {u : Nat} (h : u ≠ 0) : worth u ≠ 0 := by
  have := worth_lt (show 0 < u by omega)
  omega
theorem tof_frq {u : Nat} {s : Bool} {e m : Nat} (h : Parts u s e m) (he : e ≠ 2047) : tof (frq s e m) = if kd s e m = 2 then 0 else u := by
  have h1 := h.exp
  have h2 := h.frac
  have h3 := h.eq
  unfold frq
  rw [tof_rn]
  have hp : (2 : Nat) ^ el ≠ 0 := by have := Nat.pow_pos (n := el) (show 0 < 2 by omega); omega
  by_cases h0 : e = 0 ∧ m = 0
  · obtain ⟨rfl, rfl⟩ := h0
    have hw : worth (4503599627370496 * 0 + 0) = 0 := rfl
    unfold tf
    rw [if_pos (.inl hw)]
    have hk0 : kd s 0 0 = if s then 2 else 1 := by unfold kd; rw [if_neg (by decide), if_pos ⟨rfl, rfl⟩]
    rw [hk0]
    cases s
    · exact h3.symm
    · rfl
  · have hv : 4503599627370496 * e + m ≠ 0 := by omega
    have hlt : 4503599627370496 * e + m < 9218868437227405312 := by omega
    have hk : kd s e m = 0 := by unfold kd; rw [if_neg he, if_neg h0]
    rw [hk, if_neg (by decide)]
    unfold tf
    rw [if_neg (fun h => h.elim (worth_pos hv) hp), dbl_worth hv hlt, if_neg hv]
    exact h3.symm
end Go.Proofs.Ytmehlbdlllkcgaa
