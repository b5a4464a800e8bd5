/-
  dec, seventh part: the document's units, Print, Round, Fixed.
  dec, eighth part: the document's Print, Round, Fixed.
  dec, ninth part: Exact, both ways.
-/
import Derived.Test.YtdpbceipiappjaaGreatDoorMDa
namespace Go.Proofs.YtdpbceipiappjaaGreatDoor
set_option maxRecDepth 20000
open Go.RowKit

theorem rPrint_s (S : ByteArray) (A : Option Addr) (n c x : Nat) (a : List Nat) (w : World) (hS : S.data.toList = Lib.decDigits x) (hx : val a = x) (hn : n ≤ 1000) (hcn : n ≤ c) (ha : Row w 0 A n a) :
    Calls Tryz.prog 70 #[.slice A n c] w fun e w' => e = .returned (.string S) ∧ Below w.heap.size w w' := by
  rw [str_of S _ hS]; exact rPrint_any A n c a x w hx hn hcn ha
theorem sign_s (b : Bool) (Z : ByteArray) (w : World) (hZ : Z.data.toList = sgnd b []) :
    Calls Tryz.prog 58 #[.bool b] w fun e w' => e = .returned (.string Z) ∧ w = w' := by
  rw [str_of Z _ hZ]; exact sign_any b w
theorem point_s (F : ByteArray) (A : Option Addr) (c x k : Nat) (neg : Bool) (w : World) (hF : F.data.toList = sgnd (neg && decide (x ≠ 0)) (fx x k)) (hl : (lim x).length ≤ 1000) (hlc : (lim x).length ≤ c) (hk : k ≤ 1000) (ha : Row w 0 A (lim x).length (lim x)) :
    Calls Tryz.prog 36 #[.bool neg, .slice A (lim x).length c, .int .i64 (k : Int)] w fun e w' => e = .returned (.string F) ∧ Below w.heap.size w w' := by
  rw [str_of F _ hF]; exact point_any A c x k neg w hl hlc hk ha
theorem lim_one_of {x : Nat} (h0 : x ≠ 0) (h : (lim x).length = 1) : lim x = [x] ∧ x < 4294967296 := by
  have h1 : x < 4294967296 ^ 1 := Bd.ofL (by omega)
  have h2 : x < 4294967296 := by omega
  exact ⟨lim_one_limb h0 h2, h2⟩

end Go.Proofs.YtdpbceipiappjaaGreatDoor

namespace Go.Proofs.YtdpbceipiappjaaGreatDoor
set_option maxRecDepth 20000
open Go.RowKit

end Go.Proofs.YtdpbceipiappjaaGreatDoor

namespace Go.Proofs.YtdpbceipiappjaaGreatDoor
set_option maxRecDepth 20000
open Go.RowKit

theorem TrimRight_s (S T : ByteArray) (w : World) (hT : T.data.toList = Lib.trimRightB S.data.toList 48) (hs : S.size ≤ 1000000) :
    Calls Tryz.prog 104 #[.string S, .string ⟨#[48]⟩] w fun e w' => e = .returned (.string T) ∧ w = w' := by
  refine (Tryz.strings_TrimRight_one S 48 (by decide) w (by omega)).mono ?_
  rintro e w' ⟨rfl, rfl⟩
  exact ⟨by rw [← hT], rfl⟩
theorem TrimSuffix_s (S T : ByteArray) (w : World) (hT : T.data.toList = Lib.trimSuffix S.data.toList [46]) (hs : S.size ≤ 1000000) :
    Calls Tryz.prog 107 #[.string S, .string ⟨#[46]⟩] w fun e w' => e = .returned (.string T) ∧ w = w' := by
  refine (Tryz.strings_TrimSuffix S ⟨#[46]⟩ w (by omega)).mono ?_
  rintro e w' ⟨rfl, rfl⟩
  have e1 : (⟨#[46]⟩ : ByteArray).data.toList = [46] := rfl
  exact ⟨by rw [e1, ← hT], rfl⟩
theorem trimR_len (l : List UInt8) (c : UInt8) : (Lib.trimRightB l c).length ≤ l.length := by
  unfold Lib.trimRightB
  rw [List.length_reverse]
  have := (List.dropWhile_sublist (p := (· == c)) (l := l.reverse)).length_le
  rw [List.length_reverse] at this
  exact this
/-- A number in the fewest digits that tell it. -/
def ext (r : Rat) (K : Nat) : List UInt8 := sgnd (decide (r.num < 0)) (fx (r.num.natAbs * 10 ^ K / r.den) K)
theorem ExAt.same {x y K L : Nat} (h : ExAt x y K) (h' : ExAt x y L) : K = L := by
  rcases Nat.lt_trichotomy K L with h1 | h1 | h1
  · exact absurd h.tells (h'.least K h1)
  · exact h1
  · exact absurd h'.tells (h.least L h1)
theorem ext_flag {r : Rat} {K : Nat} (h : ExAt r.num.natAbs r.den K) : (decide (r.num < 0) && decide (r.num.natAbs * 10 ^ K / r.den ≠ 0)) = decide (r.num < 0) := by
  by_cases h1 : r.num < 0
  · have h2 : r.num.natAbs * 10 ^ K ≠ 0 := Nat.mul_ne_zero (by omega) (by have := ten_pos K; omega)
    obtain ⟨q, hq⟩ := h.tells
    have h3 : r.num.natAbs * 10 ^ K / r.den ≠ 0 := by
      rw [hq, Nat.mul_div_cancel_left _ r.den_pos]
      rintro rfl
      rw [Nat.mul_zero] at hq
      exact h2 hq
    rw [decide_eq_true h1, decide_eq_true h3]; rfl
  · rw [decide_eq_false h1]; rfl
theorem fx_size {S : ByteArray} {x k : Nat} (h : S.data.toList = fx x k) (hl : (lim x).length ≤ 1000) (hk : k ≤ 1000) : S.size ≤ 20000 := by
  rw [str_size h]
  obtain ⟨q, hq⟩ : ∃ q : Nat, q = 1000 := ⟨_, rfl⟩
  have h1 : x < 10 ^ (10 * q) := by
    have h1 : x < 4294967296 ^ q := Bd.ofL (by omega)
    have h2 : 4294967296 ^ q ≤ (10 ^ 10) ^ q := Nat.pow_le_pow_left (by omega) _
    rw [Nat.pow_mul]; omega
  have := fx_len (k := k) (by omega) h1
  omega

set_option maxRecDepth 100000 in
set_option maxHeartbeats 8000000 in
theorem dExact_yes (F : ByteArray) (v : Rv) (r : Rat) (K : Nat) (w : World) (hE : ExAt r.num.natAbs r.den K) (hK : K ≤ 60) (hF : F.data.toList = ext r K) (hv : Rw w v r 400) (ht : Tb w) :
    Calls Tryz.prog 91 #[.agg #[.bool v.s, .slice v.A v.n v.c, .slice v.B v.m v.d]] w fun e w' => e = .returned (.tuple #[.string F, .bool true]) ∧ Below w.heap.size w w' := by
  have sz := hv.sz (by omega)
  have hql : (lim (r.num.natAbs * 10 ^ 60 / r.den)).length ≤ 1000 := by have := ((sz.units 60).le (Nat.div_le_self _ r.den)).len; omega
  have hrl : (lim (r.num.natAbs * 10 ^ 60 % r.den)).length ≤ 1000 := by have := ((sz.units 60).le (Nat.mod_le _ r.den)).len; omega
  have hqK : (lim (r.num.natAbs * 10 ^ K / r.den)).length ≤ 1000 := by have := ((sz.units K).le (Nat.div_le_self _ r.den)).len; omega
  have hR0 : (r.num.natAbs * 10 ^ 60 % r.den) = 0 := Nat.mod_eq_zero_of_dvd (ex_more hK hE.tells)
  have HR0 : Hid (decide ((r.num.natAbs * 10 ^ 60 % r.den) = 0) = true) := decide_eq_true hR0
  obtain ⟨S, hS⟩ := str_data (fx (r.num.natAbs * 10 ^ 60 / r.den) 60)
  obtain ⟨T, hT⟩ := str_data (Lib.trimRightB S.data.toList 48)
  obtain ⟨U, hU⟩ := str_data (fx (r.num.natAbs * 10 ^ K / r.den) K)
  have s1 := fx_size hS hql (by omega)
  have s2 : T.size ≤ 20000 := by rw [str_size hT]; have := trimR_len S.data.toList 48; rw [← Lib.size_eq] at this; omega
  have s3 := fx_size hU hqK (by omega)
  have HS := Lib.hid hS
  have HT := Lib.hid hT
  have HU : Hid (U.data.toList = Lib.trimSuffix T.data.toList [46]) := by
    show _ = _
    rw [hU, hT, hS]
    exact (fx_trim r.den_nz (by omega) hK hE).symm
  have HF : Hid (F.data.toList = sgnd (decide (r.num < 0)) U.data.toList) := by show _ = _; rw [hU]; exact hF
  clear hS hT hU hF hR0 hE
  go_enter Tryz.func91, Tryz.ntmps91
  go_wp2_with fail
  generalize hW : (w.alloc (.cells #[.bool v.s, .slice v.A v.n v.c, .slice v.B v.m v.d] 24)) = W
  obtain ⟨k_v, HB, hsW⟩ := open1 w v W hW
  clear hW
  obtain ⟨v_0, v_1, v_2, v_3, v_4, v_5⟩ := k_v.facts
  refine (Norm_any v r _ ((hv.below HB).more (by omega))).mono ?_
  rintro e w1 ⟨z, rfl, hz, hb⟩
  replace k_v := k_v.below hb
  replace HB := HB.trans (hb.mono HB.size)
  clear hb v_0 v_1 v_2 v_3 v_4 v_5
  obtain ⟨v_0, v_1, v_2, v_3, v_4, v_5⟩ := k_v.facts
  go_wp2_with fail
  clear v_0 v_1 v_2 v_3 v_4 v_5
  have k_z : C3 (((w1.setCell ⟨w.heap.size, 0, none⟩ (.bool z.s)).setCell ⟨w.heap.size, 1, none⟩ (.slice z.A z.n z.c)).setCell ⟨w.heap.size, 2, none⟩ (.slice z.B z.m z.d)) w.heap.size (.bool z.s) (.slice z.A z.n z.c) (.slice z.B z.m z.d) := k_v.put (.bool z.s) (.slice z.A z.n z.c) (.slice z.B z.m z.d)
  have hz2 : Rt (((w1.setCell ⟨w.heap.size, 0, none⟩ (.bool z.s)).setCell ⟨w.heap.size, 1, none⟩ (.slice z.A z.n z.c)).setCell ⟨w.heap.size, 2, none⟩ (.slice z.B z.m z.d)) W.heap.size z r := hz.put (b := w.heap.size) (by omega) (.bool z.s) (.slice z.A z.n z.c) (.slice z.B z.m z.d)
  have HB2 : Below w.heap.size w (((w1.setCell ⟨w.heap.size, 0, none⟩ (.bool z.s)).setCell ⟨w.heap.size, 1, none⟩ (.slice z.A z.n z.c)).setCell ⟨w.heap.size, 2, none⟩ (.slice z.B z.m z.d)) := HB.trans (put3_below (b := w.heap.size) (Nat.le_refl _) (.bool z.s) (.slice z.A z.n z.c) (.slice z.B z.m z.d))
  clear hz HB
  generalize ((w1.setCell ⟨w.heap.size, 0, none⟩ (.bool z.s)).setCell ⟨w.heap.size, 1, none⟩ (.slice z.A z.n z.c)).setCell ⟨w.heap.size, 2, none⟩ (.slice z.B z.m z.d) = W2 at *
  have hz := hz2.lower (lo' := 0) (Nat.zero_le _)
  have HB := HB2
  clear k_v hsW hz2 HB2
  obtain ⟨z_0, z_1, z_2, z_3, z_4, z_5⟩ := k_z.facts
  replace ht := ht.below HB
  rw [← hz.sign] at HF
  refine (inUnits_any z r 400 60 _ hz sz (by omega) (by omega)).mono ?_
  rintro e w1 ⟨X, cx, Y, cy, rfl, ho1, ho2, hb⟩
  replace k_z := k_z.below hb
  replace ht := ht.below hb
  replace HB := HB.trans (hb.mono HB.size)
  have hr1 := ho1.rowz
  have hc1 := ho1.capLe
  have hr2 := ho2.rowz
  have hc2 := ho2.capLe
  clear hb ho1 ho2 hz z_0 z_1 z_2 z_3 z_4 z_5
  obtain ⟨z_0, z_1, z_2, z_3, z_4, z_5⟩ := k_z.facts
  go_wp2_with fail
  refine (disNought_any Y _ cy _ _ true _ (val_lim _) (by omega) hc2 hr2 HR0.out).mono ?_
  rintro e w2 ⟨rfl, rfl⟩
  go_wp2_with fail
  refine (withPoint_s S X cx _ 60 _ HS.out hql hc1 (by omega) hr1 ht).mono ?_
  rintro e w3 ⟨rfl, hb⟩
  replace k_z := k_z.below hb
  replace HB := HB.trans (hb.mono HB.size)
  clear hb ht hr1 hr2 z_0 z_1 z_2 z_3 z_4 z_5
  obtain ⟨z_0, z_1, z_2, z_3, z_4, z_5⟩ := k_z.facts
  go_wp2_with fail
  refine (TrimRight_s S T _ HT.out (by omega)).mono ?_
  rintro e w4 ⟨rfl, rfl⟩
  go_wp2_with fail
  replace k_z := k_z.drew
  replace HB := HB.drew
  go_region_held3 (fun w' => w'.cell? ⟨w.heap.size, 0, none⟩ = some (.bool z.s) ∧ w'.cell? ⟨w.heap.size, 1, none⟩ = some (.slice z.A z.n z.c) ∧ w'.cell? ⟨w.heap.size, 2, none⟩ = some (.slice z.B z.m z.d)) (go_keep)
      (first
      | (go_at_call 107
         refine (TrimSuffix_s T U _ HU.out (by omega)).mono ?_
         rintro e w1 ⟨rfl, rfl⟩)
      | (go_at_call 106
         refine (signed_s z.s U F _ HF.out (by omega)).mono ?_
         rintro e w1 ⟨rfl, rfl⟩))
  clear z_0 z_1 z_2 z_3 z_4 z_5
  go_wp2
  go_ret2
  exact ⟨rfl, HB⟩

set_option maxRecDepth 100000 in
set_option maxHeartbeats 4000000 in
theorem dExact_no (v : Rv) (r : Rat) (w : World) (hE : ¬ r.den ∣ r.num.natAbs * 10 ^ 60) (hv : Rw w v r 400) :
    Calls Tryz.prog 91 #[.agg #[.bool v.s, .slice v.A v.n v.c, .slice v.B v.m v.d]] w fun e w' => e = .returned (.tuple #[.string ⟨#[]⟩, .bool false]) ∧ Below w.heap.size w w' := by
  have sz := hv.sz (by omega)
  have hrl : (lim (r.num.natAbs * 10 ^ 60 % r.den)).length ≤ 1000 := by have := ((sz.units 60).le (Nat.mod_le _ r.den)).len; omega
  have HR0 : Hid (decide ((r.num.natAbs * 10 ^ 60 % r.den) = 0) = false) := decide_eq_false fun h => hE (Nat.dvd_of_mod_eq_zero h)
  clear hE
  go_enter Tryz.func91, Tryz.ntmps91
  go_wp2_with fail
  generalize hW : (w.alloc (.cells #[.bool v.s, .slice v.A v.n v.c, .slice v.B v.m v.d] 24)) = W
  obtain ⟨k_v, HB, hsW⟩ := open1 w v W hW
  clear hW
  obtain ⟨v_0, v_1, v_2, v_3, v_4, v_5⟩ := k_v.facts
  refine (Norm_any v r _ ((hv.below HB).more (by omega))).mono ?_
  rintro e w1 ⟨z, rfl, hz, hb⟩
  replace k_v := k_v.below hb
  replace HB := HB.trans (hb.mono HB.size)
  clear hb v_0 v_1 v_2 v_3 v_4 v_5
  obtain ⟨v_0, v_1, v_2, v_3, v_4, v_5⟩ := k_v.facts
  go_wp2_with fail
  clear v_0 v_1 v_2 v_3 v_4 v_5
  have k_z : C3 (((w1.setCell ⟨w.heap.size, 0, none⟩ (.bool z.s)).setCell ⟨w.heap.size, 1, none⟩ (.slice z.A z.n z.c)).setCell ⟨w.heap.size, 2, none⟩ (.slice z.B z.m z.d)) w.heap.size (.bool z.s) (.slice z.A z.n z.c) (.slice z.B z.m z.d) := k_v.put (.bool z.s) (.slice z.A z.n z.c) (.slice z.B z.m z.d)
  have hz2 : Rt (((w1.setCell ⟨w.heap.size, 0, none⟩ (.bool z.s)).setCell ⟨w.heap.size, 1, none⟩ (.slice z.A z.n z.c)).setCell ⟨w.heap.size, 2, none⟩ (.slice z.B z.m z.d)) W.heap.size z r := hz.put (b := w.heap.size) (by omega) (.bool z.s) (.slice z.A z.n z.c) (.slice z.B z.m z.d)
  have HB2 : Below w.heap.size w (((w1.setCell ⟨w.heap.size, 0, none⟩ (.bool z.s)).setCell ⟨w.heap.size, 1, none⟩ (.slice z.A z.n z.c)).setCell ⟨w.heap.size, 2, none⟩ (.slice z.B z.m z.d)) := HB.trans (put3_below (b := w.heap.size) (Nat.le_refl _) (.bool z.s) (.slice z.A z.n z.c) (.slice z.B z.m z.d))
  clear hz HB
  generalize ((w1.setCell ⟨w.heap.size, 0, none⟩ (.bool z.s)).setCell ⟨w.heap.size, 1, none⟩ (.slice z.A z.n z.c)).setCell ⟨w.heap.size, 2, none⟩ (.slice z.B z.m z.d) = W2 at *
  have hz := hz2.lower (lo' := 0) (Nat.zero_le _)
  have HB := HB2
  clear k_v hsW hz2 HB2
  obtain ⟨z_0, z_1, z_2, z_3, z_4, z_5⟩ := k_z.facts
  refine (inUnits_any z r 400 60 _ hz sz (by omega) (by omega)).mono ?_
  rintro e w1 ⟨X, cx, Y, cy, rfl, ho1, ho2, hb⟩
  replace HB := HB.trans (hb.mono HB.size)
  have hr2 := ho2.rowz
  have hc2 := ho2.capLe
  clear hb ho1 ho2 hz k_z z_0 z_1 z_2 z_3 z_4 z_5
  go_wp2_with fail
  refine (disNought_any Y _ cy _ _ false _ (val_lim _) (by omega) hc2 hr2 HR0.out).mono ?_
  rintro e w2 ⟨rfl, rfl⟩
  go_wp2
  go_ret2
  exact ⟨rfl, HB⟩

/-- What the document's Exact answers. -/
def RExP (F : ByteArray) (r : Rat) (w : World) (e : Ending) (w' : World) : Prop :=
  ((∃ K, K ≤ 60 ∧ ExAt r.num.natAbs r.den K ∧ e = .returned (.tuple #[.string F, .bool true])) ∨ ((∀ j, j ≤ 60 → ¬ r.den ∣ r.num.natAbs * 10 ^ j) ∧ e = .returned (.tuple #[.string ⟨#[]⟩, .bool false]))) ∧ Below w.heap.size w w'
set_option maxRecDepth 100000 in
set_option maxHeartbeats 8000000 in
theorem rExact_p (F : ByteArray) (v : Rv) (r : Rat) (w : World) (hF : ∀ K, K ≤ 60 → ExAt r.num.natAbs r.den K → F.data.toList = ext r K) (hv : Rw w v r 40) :
    Calls Tryz.prog 22 #[.agg #[.bool v.s, .slice v.A v.n v.c, .slice v.B v.m v.d]] w (RExP F r w) := by
  have sz := hv.sz (by omega)
  have hnl : (lim r.num.natAbs).length ≤ 40 := sz.num.len
  have hdl : (lim r.den).length ≤ 40 := sz.den.len
  have HF := Lib.hid hF
  have HP : Hid (0 < r.den) := r.den_pos
  have hl1 : lim 1 = [1] := by rw [lim_pos (by omega), show 1 / 4294967296 = 0 by omega, lim_zero]
  have HL1 : Hid (1 = (lim (10 ^ 0)).length) := by show _ = _; rw [Nat.pow_zero, hl1]; rfl
  have HO1 : Hid (∀ W : World, Own (W.alloc (.cells #[.int .u32 1] 69)) W.heap.size (some ⟨W.heap.size, 0, none⟩) 1 (lim (10 ^ 0)).length (lim (10 ^ 0))) := by
    intro W
    rw [Nat.pow_zero, hl1]; exact Own.lit1 W 1 1 rfl (by omega)
  clear hF hl1
  go_enter Tryz.func22, Tryz.ntmps22
  go_wp2_with fail
  generalize hW : (w.alloc (.cells #[.bool v.s, .slice v.A v.n v.c, .slice v.B v.m v.d] 24)) = W
  obtain ⟨k_v, HB, hsW⟩ := open1 w v W hW
  clear hW
  obtain ⟨v_0, v_1, v_2, v_3, v_4, v_5⟩ := k_v.facts
  refine (rNorm_c v r _ ((hv.below HB).more (by omega))).mono ?_
  rintro e w1 ⟨z, rfl, hz, hb⟩
  replace HB := HB.trans (hb.mono HB.size)
  have hzw := HB.size
  clear hb v_0 v_1 v_2 v_3 v_4 v_5 k_v hsW
  have k_z := (C3.new w1 (.bool z.s) (.slice z.A z.n z.c) (.slice z.B z.m z.d)).alloc (.cells #[.int .u32 1] 69)
  have hbn : Below w1.heap.size w1 ((w1.alloc (.cells #[.bool z.s, .slice z.A z.n z.c, .slice z.B z.m z.d] 24)).alloc (.cells #[.int .u32 1] 69)) := ((Below.refl _ _).alloc (Nat.le_refl _) _).alloc (by simp) _
  have HB2 := Lib.hid (HB.trans (hbn.mono HB.size))
  have hz2 := Lib.hid ((hz.below hbn).lower (lo' := 0) (Nat.zero_le _))
  have HK := Lib.hid k_z
  have e1 : (w1.alloc (.cells #[.bool z.s, .slice z.A z.n z.c, .slice z.B z.m z.d] 24)).heap.size = w1.heap.size + 1 := by simp
  have HO := HO1.out (w1.alloc (.cells #[.bool z.s, .slice z.A z.n z.c, .slice z.B z.m z.d] 24))
  rw [e1] at HO
  have HO2 := Lib.hid (HO.lower (lo' := w.heap.size) (by omega))
  clear hbn HB hz k_z HO HO1 e1
  have HN : Hid (∀ j, j < 0 → ¬ r.den ∣ r.num.natAbs * 10 ^ j) := fun j hj => absurd hj (by omega)
  have hzb : w.heap.size ≤ w1.heap.size := hzw
  go_wp2
  generalize w1.heap.size = zb at *
  go_loopw [5, 6] (fun tv kv wr => ∃ (k : Nat) (A : Option Addr) (c : Nat), k ≤ 61 ∧ kv = .int .i64 (k : Int) ∧ tv = .slice A (lim (10 ^ k)).length c ∧ Hid (Own wr w.heap.size A c (lim (10 ^ k)).length (lim (10 ^ k))) ∧ Hid (C3 wr zb (.bool z.s) (.slice z.A z.n z.c) (.slice z.B z.m z.d)) ∧ Hid (Rt wr 0 z r) ∧ Hid (Below w.heap.size w wr) ∧ Hid (∀ j, j < k → ¬ r.den ∣ r.num.natAbs * 10 ^ j)) (fun _ kv _ => 61 - (intOf kv).toNat)
  case atStart => exact ⟨0, _, 1, by omega, rfl, by rw [← HL1.out], HO2, HK, hz2, HB2, HN⟩
  case round =>
    obtain ⟨k, A, c, hk, rfl, rfl, HO, HKZ, HZ, HBB, HNK⟩ := hrel
    clear HO2 HK hz2 HB2 HN HL1
    by_cases h60 : k ≤ 60
    · have htl : (lim (10 ^ k)).length ≤ 7 := by have := ten_len (k := k) (m := 60) h60; omega
      have hub : (lim (r.num.natAbs * 10 ^ k)).length ≤ 64 := by have := (sz.units k).len; omega
      have hql : (lim (r.num.natAbs * 10 ^ k / r.den)).length ≤ 64 := by have := ((sz.units k).le (Nat.div_le_self _ r.den)).len; omega
      have k_z := HKZ.out
      have hz := HZ.out.drewn
      have HB := HBB.out
      have ho := HO.out.drew
      have hrt := ho.rowz
      have hct := ho.capLe
      clear HKZ HZ HBB HO
      obtain ⟨z_0, z_1, z_2, z_3, z_4, z_5⟩ := k_z.facts
      go_wp2_with fail
      replace k_z := k_z.drew
      replace HB := HB.drew
      go_region_held3 (fun w' => w'.cell? ⟨zb, 0, none⟩ = some (.bool z.s) ∧ w'.cell? ⟨zb, 1, none⟩ = some (.slice z.A z.n z.c) ∧ w'.cell? ⟨zb, 2, none⟩ = some (.slice z.B z.m z.d)) (go_keep)
          (first
          | (go_at_call 35
             have hs0 := HB.size
             refine (rMul_v r.num.natAbs (10 ^ k) z.A _ z.n _ z.c _ _ _ _ (val_lim _) (val_lim _) (by rw [hz.numLen]; omega) (by omega) hz.num hrt).mono ?_
             rintro e w1 ⟨X, cx, rfl, hx, hb⟩
             replace HB := HB.trans (hb.mono HB.size)
             replace k_z := k_z.below hb
             replace hz := hz.below hb
             replace ho := ho.below hb
             have hrx := hx.rowz
             have hcx := hx.capLe
             clear hx hrt
             clear hb hs0
             clear z_0 z_1 z_2 z_3 z_4 z_5
             obtain ⟨z_0, z_1, z_2, z_3, z_4, z_5⟩ := k_z.facts)
          | (go_at_call 34
             have hs0 := HB.size
             refine (rDivMod_pos _ z.B _ z.m _ z.d (r.num.natAbs * 10 ^ k) r.den _ _ _ (by omega) (by rw [hz.denLen]; omega) hcx hz.denCap hrx hz.den (val_lim _) (val_lim _) HP.out).mono ?_
             rintro e w1 ⟨X2, c2, Y2, d2, rfl, ho1, ho2, hb⟩
             replace HB := HB.trans (hb.mono HB.size)
             replace k_z := k_z.below hb
             replace hz := hz.below hb
             replace ho := ho.below hb
             have hr1 := ho1.rowz
             have hc1 := ho1.capLe
             clear ho1 ho2 hrx
             clear hb hs0
             clear z_0 z_1 z_2 z_3 z_4 z_5
             obtain ⟨z_0, z_1, z_2, z_3, z_4, z_5⟩ := k_z.facts))
      have hzs := hz.sign
      by_cases hd : r.den ∣ r.num.natAbs * 10 ^ k
      · have hl0 : (lim (r.num.natAbs * 10 ^ k % r.den)).length ≤ 0 := by rw [Nat.mod_eq_zero_of_dvd hd, lim_zero]; simp
        have hq0 : (((lim (r.num.natAbs * 10 ^ k % r.den)).length : Int) == 0) = true := by rw [beq_iff_eq]; omega
        have hE : ExAt r.num.natAbs r.den k := ⟨hd, HNK.out⟩
        have HFK : Hid (F.data.toList = sgnd (z.s && decide ((r.num.natAbs * 10 ^ k / r.den) ≠ 0)) (fx (r.num.natAbs * 10 ^ k / r.den) k)) := by
          show _ = _
          rw [hzs, ext_flag hE]; exact HF.out k h60 hE
        have HE : Hid (∀ W, Below w.heap.size w W → RExP F r w (.returned (.tuple #[.string F, .bool true])) W) := fun W hb => ⟨.inl ⟨k, h60, hE, rfl⟩, hb⟩
        clear hd hE hzs
        go_wp2_with fail
        refine (point_s F X2 c2 _ k z.s _ HFK.out (by omega) hc1 (by omega) hr1).mono ?_
        rintro e w3 ⟨rfl, hb⟩
        have HB3 := Lib.hid (HB.trans (hb.mono HB.size))
        clear hb z_0 z_1 z_2 z_3 z_4 z_5
        go_wp2
        go_ret2
        exact HE.out _ HB3.out
      · have hl0 : 0 < (lim (r.num.natAbs * 10 ^ k % r.den)).length := by rw [lim_pos (fun h => hd (Nat.dvd_of_mod_eq_zero h))]; simp
        have hq0 : (((lim (r.num.natAbs * 10 ^ k % r.den)).length : Int) == 0) = false := by rw [beq_eq_false_iff_ne]; omega
        have HNK2 : Hid (∀ j, j < k + 1 → ¬ r.den ∣ r.num.natAbs * 10 ^ j) := by
          intro j hj
          by_cases h : j = k
          · subst h; exact hd
          · exact HNK.out j (by omega)
        have HE : Hid (10 ^ k * 10 = 10 ^ (k + 1)) := (Nat.pow_succ _ _).symm
        have hsz := HB.size
        have hrt := ho.rowz
        clear hd hzs HNK hr1
        go_wp2_with fail
        refine (rMul_v (10 ^ k) 10 _ _ _ 1 _ _ _ [10] _ (val_lim _) (val_one _) (by omega) (by omega) (hrt.alloc _) (Row.lit1 _ 10 10 rfl (by omega))).mono ?_
        rintro e w3 ⟨B, f, rfl, ho3, hb⟩
        rw [HE.out] at ho3 ⊢
        have HO3 := Lib.hid (ho3.lower (lo' := w.heap.size) (by simp; omega))
        have HB3 := Lib.hid ((HB.alloc hsz _).trans (hb.mono (by simp; omega)))
        have HK3 := Lib.hid ((k_z.alloc _).below hb)
        have hza := hz.below ((Below.refl _ _).alloc (Nat.le_refl _) (.cells #[.int .u32 10] 69))
        have HZ3 := Lib.hid (hza.below hb)
        clear ho3 hb k_z hz hza HB hrt ho HE z_0 z_1 z_2 z_3 z_4 z_5
        go_wp2
        go_roundw
        case rel => exact ⟨k + 1, B, f, by omega, by go_num, rfl, HO3, HK3, HZ3, HB3, HNK2⟩
        case measure => simp [intOf]; omega
    · have HE : Hid (∀ W, Below w.heap.size w W → RExP F r w (.returned (.tuple #[.string ⟨#[]⟩, .bool false])) W) := fun W hb => ⟨.inr ⟨fun j hj => HNK.out j (by omega), rfl⟩, hb⟩
      clear HNK HKZ HZ HO
      go_wp2
      go_ret2
      exact HE.out _ HBB.out
end Go.Proofs.YtdpbceipiappjaaGreatDoor
