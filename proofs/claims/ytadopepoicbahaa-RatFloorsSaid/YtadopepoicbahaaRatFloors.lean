/-
  RatFloors: the walk of the law over small rationals.
-/
import Derived.Test.YtadopepoicbahaaRatOrder
namespace Go.Proofs.Ytadopepoicbahaa
open Go.RowKit

theorem sgn_pos {r : Rat} (h : 0 < r) : sgn r = 1 := by
  have h1 : r ≠ 0 := fun e => Rat.ne_of_gt h e
  have h2 : 0 ≤ r.num := Rat.num_nonneg.2 (Rat.le_of_lt h)
  unfold sgn
  rw [if_neg h1, if_neg (by omega)]
theorem sgn_lt {r s : Rat} (h : r < s) : sgn (r - s) = -1 := by
  have h1 := (Rat.lt_iff_sub_pos r s).1 h
  have h2 := sgn_pos h1
  rw [sgn_turn, h2]
theorem Sz.int {i : Int} (h : i.natAbs < 4294967296) : Sz (i : Rat) 1 := ⟨show i.natAbs < 4294967296 ^ 1 by omega, show 1 < 4294967296 ^ 1 by omega⟩
theorem Sz.floor {r : Rat} {p : Nat} (h : Sz r p) : Sz ((r.floor : Int) : Rat) (p + 2) := by
  have hp := h.pos
  have e := rn_floor (decide (r.num < 0)) (x := r.num.natAbs) r.den_nz
  rw [rn_self] at e
  have h1 : Bd 1 1 := by show (1 : Nat) < 4294967296 ^ 1; omega
  have h2 : Bd (r.num.natAbs / r.den) p := h.num.le (Nat.div_le_self _ _)
  have h3 : Bd (r.num.natAbs / r.den + 1) (p + 2) := (h2.add h1).more (by omega)
  refine Sz.ofRn e.symm (h3.le ?_) (h1.more (by omega)) (by omega)
  split <;> omega
/-- A row of one limb 1: its digit. -/
structure Dig (w : World) (p : Addr) : Prop where
  digit : w.cell? p = some (.int .u32 1)
  lt : p.block < w.heap.size
theorem Dig.below {w w' : World} {p : Addr} (h : Dig w p) (hb : Below w.heap.size w w') : Dig w' p :=
  ⟨(hb.cell h.lt).trans h.digit, Nat.lt_of_lt_of_le h.lt hb.size⟩
theorem Dig.drew {w : World} {p : Addr} (h : Dig w p) : Dig w.drew p := ⟨h.digit, h.lt⟩
theorem Dig.ofRow {w : World} {lo : Nat} {A : Option Addr} {n : Nat} (h : Row w lo A n (lim 1)) : n = 1 ∧ ∃ b off, A = some ⟨b, off, none⟩ ∧ Dig w ⟨b, off, none⟩ := by
  have hl : lim 1 = [1] := lim_one_limb (by omega) (by omega)
  have hn : n = 1 := by rw [← h.len, hl]; rfl
  refine ⟨hn, ?_⟩
  obtain ⟨b, off, e, h1, h2, hc⟩ := h.mem (by omega)
  have h0 := hc 0 (by omega)
  rw [hl, Nat.add_zero] at h0
  exact ⟨b, off, e, h0, h2⟩

set_option maxRecDepth 100000 in
set_option maxHeartbeats 8000000 in
theorem RatFloors_less (v : Rv) (r : Rat) (w : World) (e_k : Hid (sgn ((r.floor : Rat) - r) = -1)) (hlen : v.n + v.m ≤ 16) (h_v : Rw w v r 16) :
    Calls Try.prog 8 #[.agg #[.bool v.s, .slice v.A v.n v.c, .slice v.B v.m v.d]] w fun e w' => e = .returned (.bool true) ∧ Below w.heap.size w w' := by
  have e_up : Hid (sgn (((r.floor : Int) : Rat) + ((1 : Int) : Rat) - r) = 1) := by
    show _ = _
    apply sgn_pos
    rw [← Rat.lt_iff_sub_pos, ← Rat.intCast_add]
    exact Rat.lt_floor_add_one r
  go_enter Try.func8, Try.ntmps8
  go_wp2_with fail
  generalize hW : (w.alloc (.cells #[.bool v.s, .slice v.A v.n v.c, .slice v.B v.m v.d] 24)).alloc (.cells #[.bool v.s, .slice v.A v.n v.c, .slice v.B v.m v.d] 24) = W
  obtain ⟨k_v, HB, hsW, hbig⟩ := open1b w v W hW
  clear hW
  refine (big_any (pick v v v) (w.heap.size + 1) 1 _ (by omega) ?_ hbig).mono ?_
  · intro i hi
    have : i = 0 := by omega
    rcases this with rfl <;> simp only [pick] <;> omega
  rintro e w0 ⟨rfl, hb⟩
  rw [decide_eq_false (show ¬ 16 < tot (pick v v v) 1 by simp only [tot, pick]; omega)]
  replace HB := HB.trans (hb.mono (by omega))
  replace k_v := k_v.below hb
  clear hb hbig hsW
  obtain ⟨v_0, v_1, v_2, v_3, v_4, v_5⟩ := k_v.facts
  go_wp2_with fail
  clear v_0 v_1 v_2 v_3 v_4 v_5
  refine (Floor_c v r _ ((h_v.below HB).more (by omega))).mono ?_
  rintro e w1 ⟨f, rfl, hf, hb⟩
  replace HB := HB.trans (hb.mono HB.size)
  replace k_v := k_v.below hb
  have hsz1 := HB.size
  clear hb
  obtain ⟨fs, fA, fn, fc, fB, fm, fd⟩ := f
  obtain ⟨hm, bb, off, hB, hdig⟩ := Dig.ofRow (A := fB) (n := fm) hf.den
  subst hm hB
  obtain ⟨v_0, v_1, v_2, v_3, v_4, v_5⟩ := k_v.facts
  go_wp2_with fail
  clear v_0 v_1 v_2 v_3 v_4 v_5
  have k_f := C3.new w1 (.bool fs) (.slice fA fn fc) (.slice (some ⟨bb, off, none⟩) 1 fd)
  have hbn : Below w1.heap.size w1 (w1.alloc (.cells #[.bool fs, .slice fA fn fc, .slice (some ⟨bb, off, none⟩) 1 fd] 24)) := (Below.refl _ _).alloc (Nat.le_refl _) _
  replace HB := HB.trans (hbn.mono HB.size)
  replace k_v := k_v.below hbn
  replace hf := hf.below hbn
  have dig_row := hdig.below hbn
  clear hbn hdig
  generalize w1.alloc (.cells #[.bool fs, .slice fA fn fc, .slice (some ⟨bb, off, none⟩) 1 fd] 24) = W2 at *
  have z_v : Sz r 16 := h_v.sz (by omega)
  have z_f := z_v.floor
  have z_1 : Sz ((1 : Int) : Rat) 1 := Sz.int (by decide)
  have s_f1 := z_f.add z_1
  have h_f := ((hf.rw z_f).below ((Below.refl _ _).drew)).more (show 16 + 2 ≤ 2000 by omega)
  replace h_v := ((h_v.below HB).drew).more (show 16 ≤ 2000 by omega)
  obtain ⟨v_0, v_1, v_2, v_3, v_4, v_5⟩ := k_v.facts
  obtain ⟨f_0, f_1, f_2, f_3, f_4, f_5⟩ := k_f.facts
  have dig := dig_row.digit
  replace k_v := k_v.drew
  replace k_f := k_f.drew
  replace dig_row := dig_row.drew
  replace HB := HB.drew
  have mk0 : Hid True := trivial
  clear hlen hf hsz1
  go_region_held3 (fun w' => w'.cell? ⟨w.heap.size, 0, none⟩ = some (.bool v.s) ∧ w'.cell? ⟨w.heap.size, 1, none⟩ = some (.slice v.A v.n v.c) ∧ w'.cell? ⟨w.heap.size, 2, none⟩ = some (.slice v.B v.m v.d) ∧ w'.cell? ⟨w1.heap.size, 0, none⟩ = some (.bool fs) ∧ w'.cell? ⟨w1.heap.size, 1, none⟩ = some (.slice fA fn fc) ∧ w'.cell? ⟨w1.heap.size, 2, none⟩ = some (.slice (some ⟨bb, off, none⟩) 1 fd) ∧ w'.cell? ⟨bb, off, none⟩ = some (.int .u32 1)) (go_keep)
      (first
      | (go_at_call 22
         have mk1 := mk0
         clear mk0
         refine (Cmp_v ⟨fs, fA, fn, fc, some ⟨bb, off, none⟩, 1, fd⟩ v _ _ (-1) _ h_f h_v e_k.out).mono ?_
         rintro e w1 ⟨rfl, hb⟩
         replace HB := HB.trans (hb.mono HB.size)
         replace k_v := k_v.below hb
         replace k_f := k_f.below hb
         replace h_v := h_v.below hb
         replace h_f := h_f.below hb
         replace dig_row := dig_row.below hb
         clear hb
         clear v_0 v_1 v_2 v_3 v_4 v_5 f_0 f_1 f_2 f_3 f_4 f_5
         obtain ⟨v_0, v_1, v_2, v_3, v_4, v_5⟩ := k_v.facts
         obtain ⟨f_0, f_1, f_2, f_3, f_4, f_5⟩ := k_f.facts
         clear dig
         have dig := dig_row.digit)
      | (go_at_call 39
         have mk2 := mk1
         clear mk1
         refine (Int_any 1 _ (by omega)).mono ?_
         rintro e w2 ⟨x1, rfl, ht_x1, hb⟩
         replace HB := HB.trans (hb.mono HB.size)
         replace k_v := k_v.below hb
         replace k_f := k_f.below hb
         replace h_v := h_v.below hb
         replace h_f := h_f.below hb
         replace dig_row := dig_row.below hb
         have h_x1 := (ht_x1.rw z_1).more (show _ ≤ 2000 by omega)
         clear hb
         clear v_0 v_1 v_2 v_3 v_4 v_5 f_0 f_1 f_2 f_3 f_4 f_5
         obtain ⟨v_0, v_1, v_2, v_3, v_4, v_5⟩ := k_v.facts
         obtain ⟨f_0, f_1, f_2, f_3, f_4, f_5⟩ := k_f.facts
         clear dig
         have dig := dig_row.digit)
      | (go_at_call 16
         have mk3 := mk2
         clear mk2
         refine (Add_c ⟨fs, fA, fn, fc, some ⟨bb, off, none⟩, 1, fd⟩ x1 _ _ _ (h_f) (h_x1)).mono ?_
         rintro e w3 ⟨x2, rfl, ht_x2, hb⟩
         replace HB := HB.trans (hb.mono HB.size)
         replace k_v := k_v.below hb
         replace k_f := k_f.below hb
         replace h_v := h_v.below hb
         replace h_f := h_f.below hb
         replace dig_row := dig_row.below hb
         replace h_x1 := h_x1.below hb
         replace ht_x1 := ht_x1.below hb
         have h_x2 := (ht_x2.rw s_f1).more (show _ ≤ 2000 by omega)
         clear hb
         clear v_0 v_1 v_2 v_3 v_4 v_5 f_0 f_1 f_2 f_3 f_4 f_5
         obtain ⟨v_0, v_1, v_2, v_3, v_4, v_5⟩ := k_v.facts
         obtain ⟨f_0, f_1, f_2, f_3, f_4, f_5⟩ := k_f.facts
         clear dig
         have dig := dig_row.digit)
      | (go_at_call 22
         have mk4 := mk3
         clear mk3
         refine (Cmp_v x2 v _ _ 1 _ h_x2 h_v e_up.out).mono ?_
         rintro e w4 ⟨rfl, hb⟩
         replace HB := HB.trans (hb.mono HB.size)
         replace k_v := k_v.below hb
         replace k_f := k_f.below hb
         replace h_v := h_v.below hb
         replace h_f := h_f.below hb
         replace dig_row := dig_row.below hb
         replace h_x1 := h_x1.below hb
         replace ht_x1 := ht_x1.below hb
         replace h_x2 := h_x2.below hb
         replace ht_x2 := ht_x2.below hb
         clear hb
         clear v_0 v_1 v_2 v_3 v_4 v_5 f_0 f_1 f_2 f_3 f_4 f_5
         obtain ⟨v_0, v_1, v_2, v_3, v_4, v_5⟩ := k_v.facts
         obtain ⟨f_0, f_1, f_2, f_3, f_4, f_5⟩ := k_f.facts
         clear dig
         have dig := dig_row.digit
         clear h_x1 ht_x1 h_x2 ht_x2)
      | (go_at_call 26
         have mk5 := mk4
         clear mk4
         refine (known_any _).mono ?_
         rintro e w5 ⟨rfl, hb⟩
         replace HB := HB.trans (hb.mono HB.size)
         replace k_v := k_v.below hb
         replace k_f := k_f.below hb
         replace h_v := h_v.below hb
         replace h_f := h_f.below hb
         replace dig_row := dig_row.below hb
         clear hb
         clear v_0 v_1 v_2 v_3 v_4 v_5 f_0 f_1 f_2 f_3 f_4 f_5
         obtain ⟨v_0, v_1, v_2, v_3, v_4, v_5⟩ := k_v.facts
         obtain ⟨f_0, f_1, f_2, f_3, f_4, f_5⟩ := k_f.facts
         clear dig
         have dig := dig_row.digit))
  go_wp2
  go_ret
  exact ⟨rfl, HB⟩

set_option maxRecDepth 100000 in
set_option maxHeartbeats 8000000 in
theorem RatFloors_same (v : Rv) (r : Rat) (w : World) (e_k : Hid (sgn ((r.floor : Rat) - r) = 0)) (hlen : v.n + v.m ≤ 16) (h_v : Rw w v r 16) :
    Calls Try.prog 8 #[.agg #[.bool v.s, .slice v.A v.n v.c, .slice v.B v.m v.d]] w fun e w' => e = .returned (.bool true) ∧ Below w.heap.size w w' := by
  have e_up : Hid (sgn (((r.floor : Int) : Rat) + ((1 : Int) : Rat) - r) = 1) := by
    show _ = _
    apply sgn_pos
    rw [← Rat.lt_iff_sub_pos, ← Rat.intCast_add]
    exact Rat.lt_floor_add_one r
  go_enter Try.func8, Try.ntmps8
  go_wp2_with fail
  generalize hW : (w.alloc (.cells #[.bool v.s, .slice v.A v.n v.c, .slice v.B v.m v.d] 24)).alloc (.cells #[.bool v.s, .slice v.A v.n v.c, .slice v.B v.m v.d] 24) = W
  obtain ⟨k_v, HB, hsW, hbig⟩ := open1b w v W hW
  clear hW
  refine (big_any (pick v v v) (w.heap.size + 1) 1 _ (by omega) ?_ hbig).mono ?_
  · intro i hi
    have : i = 0 := by omega
    rcases this with rfl <;> simp only [pick] <;> omega
  rintro e w0 ⟨rfl, hb⟩
  rw [decide_eq_false (show ¬ 16 < tot (pick v v v) 1 by simp only [tot, pick]; omega)]
  replace HB := HB.trans (hb.mono (by omega))
  replace k_v := k_v.below hb
  clear hb hbig hsW
  obtain ⟨v_0, v_1, v_2, v_3, v_4, v_5⟩ := k_v.facts
  go_wp2_with fail
  clear v_0 v_1 v_2 v_3 v_4 v_5
  refine (Floor_c v r _ ((h_v.below HB).more (by omega))).mono ?_
  rintro e w1 ⟨f, rfl, hf, hb⟩
  replace HB := HB.trans (hb.mono HB.size)
  replace k_v := k_v.below hb
  have hsz1 := HB.size
  clear hb
  obtain ⟨fs, fA, fn, fc, fB, fm, fd⟩ := f
  obtain ⟨hm, bb, off, hB, hdig⟩ := Dig.ofRow (A := fB) (n := fm) hf.den
  subst hm hB
  obtain ⟨v_0, v_1, v_2, v_3, v_4, v_5⟩ := k_v.facts
  go_wp2_with fail
  clear v_0 v_1 v_2 v_3 v_4 v_5
  have k_f := C3.new w1 (.bool fs) (.slice fA fn fc) (.slice (some ⟨bb, off, none⟩) 1 fd)
  have hbn : Below w1.heap.size w1 (w1.alloc (.cells #[.bool fs, .slice fA fn fc, .slice (some ⟨bb, off, none⟩) 1 fd] 24)) := (Below.refl _ _).alloc (Nat.le_refl _) _
  replace HB := HB.trans (hbn.mono HB.size)
  replace k_v := k_v.below hbn
  replace hf := hf.below hbn
  have dig_row := hdig.below hbn
  clear hbn hdig
  generalize w1.alloc (.cells #[.bool fs, .slice fA fn fc, .slice (some ⟨bb, off, none⟩) 1 fd] 24) = W2 at *
  have z_v : Sz r 16 := h_v.sz (by omega)
  have z_f := z_v.floor
  have z_1 : Sz ((1 : Int) : Rat) 1 := Sz.int (by decide)
  have s_f1 := z_f.add z_1
  have h_f := ((hf.rw z_f).below ((Below.refl _ _).drew)).more (show 16 + 2 ≤ 2000 by omega)
  replace h_v := ((h_v.below HB).drew).more (show 16 ≤ 2000 by omega)
  obtain ⟨v_0, v_1, v_2, v_3, v_4, v_5⟩ := k_v.facts
  obtain ⟨f_0, f_1, f_2, f_3, f_4, f_5⟩ := k_f.facts
  have dig := dig_row.digit
  replace k_v := k_v.drew
  replace k_f := k_f.drew
  replace dig_row := dig_row.drew
  replace HB := HB.drew
  have mk0 : Hid True := trivial
  clear hlen hf hsz1
  go_region_held3 (fun w' => w'.cell? ⟨w.heap.size, 0, none⟩ = some (.bool v.s) ∧ w'.cell? ⟨w.heap.size, 1, none⟩ = some (.slice v.A v.n v.c) ∧ w'.cell? ⟨w.heap.size, 2, none⟩ = some (.slice v.B v.m v.d) ∧ w'.cell? ⟨w1.heap.size, 0, none⟩ = some (.bool fs) ∧ w'.cell? ⟨w1.heap.size, 1, none⟩ = some (.slice fA fn fc) ∧ w'.cell? ⟨w1.heap.size, 2, none⟩ = some (.slice (some ⟨bb, off, none⟩) 1 fd) ∧ w'.cell? ⟨bb, off, none⟩ = some (.int .u32 1)) (go_keep)
      (first
      | (go_at_call 22
         have mk1 := mk0
         clear mk0
         refine (Cmp_v ⟨fs, fA, fn, fc, some ⟨bb, off, none⟩, 1, fd⟩ v _ _ (0) _ h_f h_v e_k.out).mono ?_
         rintro e w1 ⟨rfl, hb⟩
         replace HB := HB.trans (hb.mono HB.size)
         replace k_v := k_v.below hb
         replace k_f := k_f.below hb
         replace h_v := h_v.below hb
         replace h_f := h_f.below hb
         replace dig_row := dig_row.below hb
         clear hb
         clear v_0 v_1 v_2 v_3 v_4 v_5 f_0 f_1 f_2 f_3 f_4 f_5
         obtain ⟨v_0, v_1, v_2, v_3, v_4, v_5⟩ := k_v.facts
         obtain ⟨f_0, f_1, f_2, f_3, f_4, f_5⟩ := k_f.facts
         clear dig
         have dig := dig_row.digit)
      | (go_at_call 39
         have mk2 := mk1
         clear mk1
         refine (Int_any 1 _ (by omega)).mono ?_
         rintro e w2 ⟨x1, rfl, ht_x1, hb⟩
         replace HB := HB.trans (hb.mono HB.size)
         replace k_v := k_v.below hb
         replace k_f := k_f.below hb
         replace h_v := h_v.below hb
         replace h_f := h_f.below hb
         replace dig_row := dig_row.below hb
         have h_x1 := (ht_x1.rw z_1).more (show _ ≤ 2000 by omega)
         clear hb
         clear v_0 v_1 v_2 v_3 v_4 v_5 f_0 f_1 f_2 f_3 f_4 f_5
         obtain ⟨v_0, v_1, v_2, v_3, v_4, v_5⟩ := k_v.facts
         obtain ⟨f_0, f_1, f_2, f_3, f_4, f_5⟩ := k_f.facts
         clear dig
         have dig := dig_row.digit)
      | (go_at_call 16
         have mk3 := mk2
         clear mk2
         refine (Add_c ⟨fs, fA, fn, fc, some ⟨bb, off, none⟩, 1, fd⟩ x1 _ _ _ (h_f) (h_x1)).mono ?_
         rintro e w3 ⟨x2, rfl, ht_x2, hb⟩
         replace HB := HB.trans (hb.mono HB.size)
         replace k_v := k_v.below hb
         replace k_f := k_f.below hb
         replace h_v := h_v.below hb
         replace h_f := h_f.below hb
         replace dig_row := dig_row.below hb
         replace h_x1 := h_x1.below hb
         replace ht_x1 := ht_x1.below hb
         have h_x2 := (ht_x2.rw s_f1).more (show _ ≤ 2000 by omega)
         clear hb
         clear v_0 v_1 v_2 v_3 v_4 v_5 f_0 f_1 f_2 f_3 f_4 f_5
         obtain ⟨v_0, v_1, v_2, v_3, v_4, v_5⟩ := k_v.facts
         obtain ⟨f_0, f_1, f_2, f_3, f_4, f_5⟩ := k_f.facts
         clear dig
         have dig := dig_row.digit)
      | (go_at_call 22
         have mk4 := mk3
         clear mk3
         refine (Cmp_v x2 v _ _ 1 _ h_x2 h_v e_up.out).mono ?_
         rintro e w4 ⟨rfl, hb⟩
         replace HB := HB.trans (hb.mono HB.size)
         replace k_v := k_v.below hb
         replace k_f := k_f.below hb
         replace h_v := h_v.below hb
         replace h_f := h_f.below hb
         replace dig_row := dig_row.below hb
         replace h_x1 := h_x1.below hb
         replace ht_x1 := ht_x1.below hb
         replace h_x2 := h_x2.below hb
         replace ht_x2 := ht_x2.below hb
         clear hb
         clear v_0 v_1 v_2 v_3 v_4 v_5 f_0 f_1 f_2 f_3 f_4 f_5
         obtain ⟨v_0, v_1, v_2, v_3, v_4, v_5⟩ := k_v.facts
         obtain ⟨f_0, f_1, f_2, f_3, f_4, f_5⟩ := k_f.facts
         clear dig
         have dig := dig_row.digit
         clear h_x1 ht_x1 h_x2 ht_x2)
      | (go_at_call 26
         have mk5 := mk4
         clear mk4
         refine (known_any _).mono ?_
         rintro e w5 ⟨rfl, hb⟩
         replace HB := HB.trans (hb.mono HB.size)
         replace k_v := k_v.below hb
         replace k_f := k_f.below hb
         replace h_v := h_v.below hb
         replace h_f := h_f.below hb
         replace dig_row := dig_row.below hb
         clear hb
         clear v_0 v_1 v_2 v_3 v_4 v_5 f_0 f_1 f_2 f_3 f_4 f_5
         obtain ⟨v_0, v_1, v_2, v_3, v_4, v_5⟩ := k_v.facts
         obtain ⟨f_0, f_1, f_2, f_3, f_4, f_5⟩ := k_f.facts
         clear dig
         have dig := dig_row.digit))
  go_wp2
  go_ret
  exact ⟨rfl, HB⟩

theorem RatFloors_small (v : Rv) (r : Rat) (w : World) (hlen : v.n + v.m ≤ 16) (h_v : Rw w v r 16) :
    Calls Try.prog 8 #[.agg #[.bool v.s, .slice v.A v.n v.c, .slice v.B v.m v.d]] w fun e w' => e = .returned (.bool true) ∧ Below w.heap.size w w' := by
  rcases Rat.le_iff_lt_or_eq.1 (Rat.floor_le r) with h | h
  · exact RatFloors_less v r w (sgn_lt h) hlen h_v
  · exact RatFloors_same v r w (sgn_sub_zero.2 h) hlen h_v
end Go.Proofs.Ytadopepoicbahaa
