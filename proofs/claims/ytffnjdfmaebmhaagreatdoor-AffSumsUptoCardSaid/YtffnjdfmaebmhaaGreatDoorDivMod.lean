/-
  How often, and what is left: the program's DivMod.
-/
import Derived.Test.YtffnjdfmaebmhaaGreatDoorDiv1
namespace Go.Proofs.YtffnjdfmaebmhaaGreatDoor
set_option maxRecDepth 20000
open Go.RowKit

theorem Trim_v (x : Nat) (A : Option Addr) (n c : Nat) (l : List Nat) (w : World) (hx : val l = x) (hn : n ≤ 1000000) (hcap : n ≤ c) (hr : Row w 0 A n l) :
    Calls Tryz.prog 83 #[.slice A n c] w fun e w' => ∃ g, e = .returned (.slice (some ⟨g, 0, none⟩) (lim x).length (lim x).length) ∧ Own w' w.heap.size (some ⟨g, 0, none⟩) (lim x).length (lim x).length (lim x) ∧ Below w.heap.size w w' := by
  subst hx; exact Trim_any A n c l w hn hcap hr

set_option maxHeartbeats 400000 in
theorem DivMod_zero (A B : Option Addr) (n m c d : Nat) (a b : List Nat) (w : World) (hn : n ≤ 40000) (hm : m ≤ 40000) (hcn : n ≤ c) (hdm : m ≤ d) (ha : Row w 0 A n a) (hb : Row w 0 B m b) (hy : val b = 0) :
    Calls Tryz.prog 84 #[.slice A n c, .slice B m d] w fun e w' => e = .returned (.tuple #[.slice none 0 0, .slice none 0 0, .bool false]) ∧ w = w' := by
  have hl : Hid ((lim (val b)).length = 0) := by show _ = _; rw [hy, lim_zero]; rfl
  have hbl : (((lim (val b)).length : Int) == 0) = true := by rw [beq_iff_eq]; have := hl.out; omega
  clear hy
  go_enter Tryz.func84, Tryz.ntmps84
  go_wp2_with fail
  refine (head_any A n c a _ (by omega) hcn ha).mono ?_
  rintro e w' ⟨rfl, rfl⟩
  go_wp2_with fail
  refine (head_any B m d b _ (by omega) hdm hb).mono ?_
  rintro e w' ⟨rfl, rfl⟩
  go_wp2
  go_ret3
  exact ⟨rfl, rfl⟩

set_option maxHeartbeats 800000 in
theorem DivMod_less (A B : Option Addr) (n m c d x y : Nat) (a b : List Nat) (w : World) (hn : n ≤ 40000) (hm : m ≤ 40000) (hcn : n ≤ c) (hdm : m ≤ d) (ha : Row w 0 A n a) (hb : Row w 0 B m b) (hx : val a = x) (hy : val b = y) (hlt : x < y) :
    Calls Tryz.prog 84 #[.slice A n c, .slice B m d] w fun e w' => ∃ X2 c2 Y2 d2, e = .returned (.tuple #[.slice X2 (lim (x / y)).length c2, .slice Y2 (lim (x % y)).length d2, .bool true]) ∧ Own w' w.heap.size X2 c2 (lim (x / y)).length (lim (x / y)) ∧ Own w' w.heap.size Y2 d2 (lim (x % y)).length (lim (x % y)) ∧ Below w.heap.size w w' := by
  subst hx hy
  have hna : (lim (val a)).length ≤ n := by have := lim_len_le ha.l32; have := ha.len; omega
  have hnb : (lim (val b)).length ≤ m := by have := lim_len_le hb.l32; have := hb.len; omega
  have hpos : 0 < (lim (val b)).length := by
    rcases Nat.eq_zero_or_pos (lim (val b)).length with h0 | h0
    · have := val_lim (val b)
      rw [List.eq_nil_of_length_eq_zero h0] at this
      simp [val] at this
      omega
    · exact h0
  have hbl : (((lim (val b)).length : Int) == 0) = false := by rw [beq_eq_false_iff_ne]; omega
  have E1 : Hid (lim (val a / val b) = []) := by show _ = _; rw [Nat.div_eq_of_lt hlt, lim_zero]
  have E2 : Hid (val a % val b = val a) := Nat.mod_eq_of_lt hlt
  have hcmp := Lib.hid (fun (w : World) (h1 : Row w 0 A (lim (val a)).length (lim (val a))) (h2 : Row w 0 B (lim (val b)).length (lim (val b))) => by
    have h := Cmp_any A B (lim (val a)).length (lim (val b)).length c d (lim (val a)) (lim (val b)) w (by omega) (by omega) (by omega) (by omega) h1 h2
    rw [val_lim, val_lim, cmpI_lt hlt] at h
    exact h)
  have hla := ha.lim
  have hlb := hb.lim
  clear hlt
  go_enter Tryz.func84, Tryz.ntmps84
  go_wp2_with fail
  refine (head_any A n c a _ (by omega) hcn ha).mono ?_
  rintro e w' ⟨rfl, rfl⟩
  go_wp2_with fail
  refine (head_any B m d b _ (by omega) hdm hb).mono ?_
  rintro e w' ⟨rfl, rfl⟩
  go_wp2_with fail
  refine (hcmp.out _ hla hlb).mono ?_
  rintro e w1 ⟨rfl, q, hw1⟩
  have HB1 : Hid (Below w.heap.size w w1) := by rw [hw1]; exact below_drewN' _ _ _
  have hla1 := hla.below HB1.out
  clear hw1 hla hlb ha hb hcmp
  go_wp2_with fail
  refine (Trim_v (val a) A _ c (lim (val a)) _ (val_lim _) (by omega) (by omega) hla1).mono ?_
  rintro e w2 ⟨g, rfl, ho, hb2⟩
  have HO := Lib.hid (ho.lower HB1.out.size)
  have HB2 := Lib.hid (HB1.out.trans (hb2.mono HB1.out.size))
  clear ho hb2 hla1
  go_wp2
  go_ret3
  have HO2 := HO.out
  rw [E1.out, E2.out]
  exact ⟨none, 0, _, _, rfl, Own.nil_ _ _, HO2, HB2.out⟩

set_option maxHeartbeats 1600000 in
theorem DivMod_one (A B : Option Addr) (n m c d x y : Nat) (a b : List Nat) (w : World) (hn : n ≤ 40000) (hm : m ≤ 40000) (hcn : n ≤ c) (hdm : m ≤ d) (ha : Row w 0 A n a) (hb : Row w 0 B m b) (hx : val a = x) (hy : val b = y) (hle : y ≤ x) (h1 : (lim y).length = 1) :
    Calls Tryz.prog 84 #[.slice A n c, .slice B m d] w fun e w' => ∃ X2 c2 Y2 d2, e = .returned (.tuple #[.slice X2 (lim (x / y)).length c2, .slice Y2 (lim (x % y)).length d2, .bool true]) ∧ Own w' w.heap.size X2 c2 (lim (x / y)).length (lim (x / y)) ∧ Own w' w.heap.size Y2 d2 (lim (x % y)).length (lim (x % y)) ∧ Below w.heap.size w w' := by
  subst hx hy
  have hna : (lim (val a)).length ≤ n := by have := lim_len_le ha.l32; have := ha.len; omega
  have hnb : (lim (val b)).length ≤ m := by have := lim_len_le hb.l32; have := hb.len; omega
  have hbl : (((lim (val b)).length : Int) == 0) = false := by rw [beq_eq_false_iff_ne]; omega
  have hbl1 : (((lim (val b)).length : Int) == 1) = true := by rw [beq_iff_eq]; omega
  have hd0 : dg (lim (val b)) 0 = val b := by
    have h2 := S_val (lim (val b))
    rw [h1, val_lim] at h2
    simpa [S] using h2
  have hb32 := L32_lim (val b) 0
  have hbne : dg (lim (val b)) 0 ≠ 0 := by
    have := lim_tr (val b)
    unfold Tr at this
    rw [h1] at this
    simpa using this
  have hcmp := Lib.hid (fun (w : World) (h1 : Row w 0 A (lim (val a)).length (lim (val a))) (h2 : Row w 0 B (lim (val b)).length (lim (val b))) => (by
    have h := Cmp_any A B (lim (val a)).length (lim (val b)).length c d (lim (val a)) (lim (val b)) w (by omega) (by omega) (by omega) (by omega) h1 h2
    rw [val_lim, val_lim] at h
    refine ⟨_, ?_, ?_, h⟩
    · unfold cmpI; rw [if_neg (by omega)]; split <;> omega
    · unfold cmpI; rw [if_neg (by omega)]; split <;> omega : ∃ s : Int, 0 ≤ s ∧ s ≤ 1 ∧ Calls Tryz.prog 57 #[.slice A (lim (val a)).length c, .slice B (lim (val b)).length d] w fun e w' => e = .returned (.int .i64 s) ∧ ∃ q, w' = w.drewN q))
  have hla := ha.lim
  have hlb := hb.lim
  obtain ⟨s, hs0, hs1, hc⟩ := hcmp.out w hla hlb
  have HC := Lib.hid hc
  obtain ⟨b', off, rfl, h3, h4, hcl⟩ := hlb.mem (by omega)
  have hcb := hcl 0 (by omega)
  rw [Nat.add_zero] at hcb
  have hbpos : 0 < dg (lim (val b)) 0 := by omega
  have hl1 : 0 < (lim (val b)).length := by omega
  have HD0 := Lib.hid hd0
  clear hc hcmp hle h1 hd0 hbne hcl hlb
  go_enter Tryz.func84, Tryz.ntmps84
  go_wp2_with fail
  refine (head_any A n c a _ (by omega) hcn ha).mono ?_
  rintro e w' ⟨rfl, rfl⟩
  go_wp2_with fail
  refine (head_any _ m d b _ (by omega) hdm hb).mono ?_
  rintro e w' ⟨rfl, rfl⟩
  go_wp2_with fail
  refine HC.out.mono ?_
  rintro e w1 ⟨rfl, q, hw1⟩
  have hb1 : Below w.heap.size w w1 := by rw [hw1]; exact below_drewN' _ _ _
  have hla1 := hla.below hb1
  have hcb1 := (hb1.cell (p := ⟨b', off, none⟩) h4).trans hcb
  have HB1 := Lib.hid hb1
  have hz1 := hb1.size
  clear hw1 hla ha hb HC hb1 hcb
  go_wp2_with fail
  refine (Trim_v (val a) A _ c (lim (val a)) _ (val_lim _) (by omega) (by omega) hla1).mono ?_
  rintro e w2 ⟨g, rfl, ho, hb2⟩
  have hg0 := ho.own.lt g rfl
  have hcb2 := (hb2.cell (p := ⟨b', off, none⟩) (by show b' < w1.heap.size; omega)).trans hcb1
  have HB2 := Lib.hid (HB1.out.trans (hb2.mono hz1))
  have hz2 := HB2.out.size
  have HDV := Lib.hid (divideByLimb_any w1.heap.size g (lim (val a)).length (lim (val a)).length (dg (lim (val b)) 0) (lim (val a)) w2 (by omega) hbpos hb32 ho)
  have hgw : w.heap.size ≤ g := by omega
  clear ho hb2 hla1 hcb1
  go_wp2_with fail
  refine HDV.out.mono ?_
  rintro e w3 ⟨l', rfl, ho3, hv3, hg3⟩
  rw [HD0.out, val_lim] at hv3 ⊢
  have hrow := ho3.row.lower (Nat.zero_le _)
  have HO3 := Lib.hid ((ho3.lim).lower hz1)
  have HV3 := Lib.hid hv3
  have HB3 := Lib.hid (HB2.out.trans (below_of_grown_row hg3 hgw hz2))
  have hrem : val a % val b < 4294967296 := by
    have : val a % val b < val b := Nat.mod_lt _ (by have := HD0.out; omega)
    have := HD0.out
    omega
  clear ho3 hv3 hg3 HDV HB2
  go_wp2_with fail
  refine (head_any _ _ _ l' _ (by omega) (Nat.le_refl _) hrow).mono ?_
  rintro e w' ⟨rfl, rfl⟩
  go_wp2_with fail
  refine (Of_any (val a % val b) _ (by omega)).mono ?_
  rintro e w4 ⟨Y2, d2, rfl, ho4, hb4⟩
  have HO4 := Lib.hid (HO3.out.below hb4)
  have HR4 := Lib.hid (ho4.lower HB3.out.size)
  have HB4 := Lib.hid (HB3.out.trans (hb4.mono HB3.out.size))
  clear ho4 hb4 HO3 HB3 hrow
  go_wp2
  go_ret3
  have HO5 := HO4.out
  rw [HV3.out] at HO5
  exact ⟨_, _, Y2, d2, by rw [← HV3.out]; rfl, HO5, HR4.out, HB4.out⟩

set_option maxHeartbeats 1600000 in
theorem DivMod_long (A B : Option Addr) (n m c d x y : Nat) (a b : List Nat) (w : World) (hn : n ≤ 40000) (hm : m ≤ 40000) (hcn : n ≤ c) (hdm : m ≤ d) (ha : Row w 0 A n a) (hb : Row w 0 B m b) (hx : val a = x) (hy : val b = y) (hle : y ≤ x) (h1 : 2 ≤ (lim y).length) :
    Calls Tryz.prog 84 #[.slice A n c, .slice B m d] w fun e w' => ∃ X2 c2 Y2 d2, e = .returned (.tuple #[.slice X2 (lim (x / y)).length c2, .slice Y2 (lim (x % y)).length d2, .bool true]) ∧ Own w' w.heap.size X2 c2 (lim (x / y)).length (lim (x / y)) ∧ Own w' w.heap.size Y2 d2 (lim (x % y)).length (lim (x % y)) ∧ Below w.heap.size w w' := by
  subst hx hy
  have hna : (lim (val a)).length ≤ n := by have := lim_len_le ha.l32; have := ha.len; omega
  have hnb : (lim (val b)).length ≤ m := by have := lim_len_le hb.l32; have := hb.len; omega
  have hbl : (((lim (val b)).length : Int) == 0) = false := by rw [beq_eq_false_iff_ne]; omega
  have hbl1 : (((lim (val b)).length : Int) == 1) = false := by rw [beq_eq_false_iff_ne]; omega
  have htop : dg (lim (val b)) ((lim (val b)).length - 1) ≠ 0 := by
    have := lim_tr (val b)
    unfold Tr at this
    rcases this with h | h
    · omega
    · exact h
  have hla := ha.lim
  have hlb := hb.lim
  have hc : ∃ s : Int, 0 ≤ s ∧ s ≤ 1 ∧ Calls Tryz.prog 57 #[.slice A (lim (val a)).length c, .slice B (lim (val b)).length d] w fun e w' => e = .returned (.int .i64 s) ∧ ∃ q, w' = w.drewN q := by
    have h := Cmp_any A B (lim (val a)).length (lim (val b)).length c d (lim (val a)) (lim (val b)) w (by omega) (by omega) (by omega) (by omega) hla hlb
    rw [val_lim, val_lim] at h
    refine ⟨_, ?_, ?_, h⟩
    · unfold cmpI; rw [if_neg (by omega)]; split <;> omega
    · unfold cmpI; rw [if_neg (by omega)]; split <;> omega
  obtain ⟨s, hs0, hs1, hc⟩ := hc
  have HC := Lib.hid hc
  have HT := Lib.hid htop
  have HLE := Lib.hid hle
  have hmn := lim_len_mono hle
  clear hc hle htop
  go_enter Tryz.func84, Tryz.ntmps84
  go_wp2_with fail
  refine (head_any A n c a _ (by omega) hcn ha).mono ?_
  rintro e w' ⟨rfl, rfl⟩
  go_wp2_with fail
  refine (head_any B m d b _ (by omega) hdm hb).mono ?_
  rintro e w' ⟨rfl, rfl⟩
  go_wp2_with fail
  refine HC.out.mono ?_
  rintro e w1 ⟨rfl, q, hw1⟩
  have hb1 : Below w.heap.size w w1 := by rw [hw1]; exact below_drewN' _ _ _
  have hla1 := hla.below hb1
  have hlb1 := hlb.below hb1
  have HB1 := Lib.hid hb1
  clear hw1 hla hlb ha hb HC hb1
  go_wp2_with fail
  refine (divideLong_any A B (lim (val a)).length (lim (val b)).length c d (val a) (val b) (lim (val a)) (lim (val b)) _ (by omega) h1 hmn (by omega) (by omega) hla1 hlb1 (val_lim _) (val_lim _) HT.out HLE.out).mono ?_
  rintro e w2 ⟨X2, c2, Y2, d2, rfl, hq2, hr2, hb2⟩
  have HQ := Lib.hid (hq2.lower HB1.out.size)
  have HR := Lib.hid (hr2.lower HB1.out.size)
  have HB2 := Lib.hid (HB1.out.trans (hb2.mono HB1.out.size))
  clear hq2 hr2 hb2 hla1 hlb1
  go_wp2
  go_ret3
  exact ⟨X2, c2, Y2, d2, rfl, HQ.out, HR.out, HB2.out⟩

theorem DivMod_pos (A B : Option Addr) (n m c d x y : Nat) (a b : List Nat) (w : World) (hn : n ≤ 40000) (hm : m ≤ 40000) (hcn : n ≤ c) (hdm : m ≤ d) (ha : Row w 0 A n a) (hb : Row w 0 B m b) (hx : val a = x) (hy : val b = y) (h0 : 0 < y) :
    Calls Tryz.prog 84 #[.slice A n c, .slice B m d] w fun e w' => ∃ X2 c2 Y2 d2, e = .returned (.tuple #[.slice X2 (lim (x / y)).length c2, .slice Y2 (lim (x % y)).length d2, .bool true]) ∧ Own w' w.heap.size X2 c2 (lim (x / y)).length (lim (x / y)) ∧ Own w' w.heap.size Y2 d2 (lim (x % y)).length (lim (x % y)) ∧ Below w.heap.size w w' := by
  by_cases hlt : x < y
  · exact DivMod_less A B n m c d x y a b w hn hm hcn hdm ha hb hx hy hlt
  · by_cases h1 : (lim y).length = 1
    · exact DivMod_one A B n m c d x y a b w hn hm hcn hdm ha hb hx hy (by omega) h1
    · refine DivMod_long A B n m c d x y a b w hn hm hcn hdm ha hb hx hy (by omega) ?_
      rcases Nat.eq_zero_or_pos (lim y).length with h2 | h2
      · have := val_lim y
        rw [List.eq_nil_of_length_eq_zero h2] at this
        simp [val] at this
        omega
      · omega
end Go.Proofs.YtffnjdfmaebmhaaGreatDoor
