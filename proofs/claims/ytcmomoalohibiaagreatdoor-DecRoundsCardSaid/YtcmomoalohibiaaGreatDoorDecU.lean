/-
  dec, seventh part: the document's units, Print, Round, Fixed.
  dec, eighth part: the document's Print, Round, Fixed.
  dec, ninth part: Exact, both ways.
-/
import Derived.Test.YtcmomoalohibiaaGreatDoorDecP
namespace Go.Proofs.YtcmomoalohibiaaGreatDoor
set_option maxRecDepth 20000
open Go.RowKit

theorem rPrint_s (S : ByteArray) (A : Option Addr) (n c x : Nat) (a : List Nat) (w : World) (hS : S.data.toList = Lib.decDigits x) (hx : val a = x) (hn : n ≤ 1000) (hcn : n ≤ c) (ha : Row w 0 A n a) :
    Calls Tryz.prog 32 #[.slice A n c] w fun e w' => e = .returned (.string S) ∧ Below w.heap.size w w' := by
  rw [str_of S _ hS]; exact rPrint_any A n c a x w hx hn hcn ha
theorem sign_s (b : Bool) (Z : ByteArray) (w : World) (hZ : Z.data.toList = sgnd b []) :
    Calls Tryz.prog 54 #[.bool b] w fun e w' => e = .returned (.string Z) ∧ w = w' := by
  rw [str_of Z _ hZ]; exact sign_any b w
theorem point_s (F : ByteArray) (A : Option Addr) (c x k : Nat) (neg : Bool) (w : World) (hF : F.data.toList = sgnd (neg && decide (x ≠ 0)) (fx x k)) (hl : (lim x).length ≤ 1000) (hlc : (lim x).length ≤ c) (hk : k ≤ 1000) (ha : Row w 0 A (lim x).length (lim x)) :
    Calls Tryz.prog 51 #[.bool neg, .slice A (lim x).length c, .int .i64 (k : Int)] w fun e w' => e = .returned (.string F) ∧ Below w.heap.size w w' := by
  rw [str_of F _ hF]; exact point_any A c x k neg w hl hlc hk ha
theorem lim_one_of {x : Nat} (h0 : x ≠ 0) (h : (lim x).length = 1) : lim x = [x] ∧ x < 4294967296 := by
  have h1 : x < 4294967296 ^ 1 := Bd.ofL (by omega)
  have h2 : x < 4294967296 := by omega
  exact ⟨lim_one_limb h0 h2, h2⟩

set_option maxRecDepth 100000 in
set_option maxHeartbeats 8000000 in
theorem units_any (v : Rv) (r : Rat) (k : Nat) (w : World) (hv : Rw w v r 40) (hk : k ≤ 100) :
    Calls Tryz.prog 58 #[.agg #[.bool v.s, .slice v.A v.n v.c, .slice v.B v.m v.d], .int .i64 (k : Int)] w fun e w' => ∃ X c, e = .returned (.slice X (lim (un r k)).length c) ∧ Own w' w.heap.size X c (lim (un r k)).length (lim (un r k)) ∧ Below w.heap.size w w' := by
  have sz := hv.sz (by omega)
  have htl : (lim (10 ^ k)).length ≤ 12 := by have := ten_len (k := k) (m := 100) hk; omega
  have hnl : (lim r.num.natAbs).length ≤ 40 := sz.num.len
  have hub : (lim (r.num.natAbs * 10 ^ k)).length ≤ 64 := by have := (sz.units k).len; omega
  have hql : (lim (r.num.natAbs * 10 ^ k / r.den)).length ≤ 64 := by have := ((sz.units k).le (Nat.div_le_self _ r.den)).len; omega
  have hrl : (lim (r.num.natAbs * 10 ^ k % r.den)).length ≤ 64 := by have := ((sz.units k).le (Nat.mod_le _ r.den)).len; omega
  have hrrl : (lim ((r.num.natAbs * 10 ^ k % r.den) + (r.num.natAbs * 10 ^ k % r.den))).length ≤ 200 := by
    have h := (sz.units k).le (Nat.mod_le _ r.den)
    have := (h.add h).len
    omega
  have hdl : (lim r.den).length ≤ 40 := sz.den.len
  have HUN := Lib.hid (un_cases r k)
  have HP : Hid (0 < r.den) := r.den_pos
  go_enter Tryz.func58, Tryz.ntmps58
  go_wp2_with fail
  generalize hW : (w.alloc (.cells #[.bool v.s, .slice v.A v.n v.c, .slice v.B v.m v.d] 24)) = W
  obtain ⟨k_v, HB, hsW⟩ := open1 w v W hW
  clear hW
  obtain ⟨v_0, v_1, v_2, v_3, v_4, v_5⟩ := k_v.facts
  refine (rNorm_c v r _ ((hv.below HB).more (by omega))).mono ?_
  rintro e w1 ⟨z, rfl, hz, hb⟩
  replace k_v := k_v.below hb
  replace HB := HB.trans (hb.mono HB.size)
  clear hb v_0 v_1 v_2 v_3 v_4 v_5
  obtain ⟨v_0, v_1, v_2, v_3, v_4, v_5⟩ := k_v.facts
  go_wp2_with fail
  clear v_0 v_1 v_2 v_3 v_4 v_5
  have k_z := C3.new w1 (.bool z.s) (.slice z.A z.n z.c) (.slice z.B z.m z.d)
  have hbn : Below w1.heap.size w1 (w1.alloc (.cells #[.bool z.s, .slice z.A z.n z.c, .slice z.B z.m z.d] 24)) := (Below.refl _ _).alloc (Nat.le_refl _) _
  replace HB := HB.trans (hbn.mono HB.size)
  replace k_v := k_v.below hbn
  replace hz := hz.below hbn
  clear hbn
  generalize hW2 : w1.alloc (.cells #[.bool z.s, .slice z.A z.n z.c, .slice z.B z.m z.d] 24) = W2 at *
  have hzb : w.heap.size ≤ w1.heap.size := by
    have h1 : W2.heap.size = w1.heap.size + 1 := by rw [← hW2]; simp
    have h2 := k_v.lt
    omega
  clear hW2
  generalize w1.heap.size = zb at *
  replace hz := hz.lower (lo' := 0) (Nat.zero_le _)
  clear k_v
  replace hz := hz.drewn
  obtain ⟨z_0, z_1, z_2, z_3, z_4, z_5⟩ := k_z.facts
  replace k_z := k_z.drew
  replace HB := HB.drew
  go_region_held3 (fun w' => w'.cell? ⟨zb, 0, none⟩ = some (.bool z.s) ∧ w'.cell? ⟨zb, 1, none⟩ = some (.slice z.A z.n z.c) ∧ w'.cell? ⟨zb, 2, none⟩ = some (.slice z.B z.m z.d)) (go_keep)
      (first
      | (go_at_call 38
         have hs0 := HB.size
         refine (ten_any k _ (by omega)).mono ?_
         rintro e w1 ⟨T, d, rfl, ht, hb⟩
         replace HB := HB.trans (hb.mono HB.size)
         replace k_z := k_z.below hb
         replace hz := hz.below hb
         have hrt := ht.rowz
         have hct := ht.capLe
         clear ht
         clear hb hs0
         clear z_0 z_1 z_2 z_3 z_4 z_5
         obtain ⟨z_0, z_1, z_2, z_3, z_4, z_5⟩ := k_z.facts)
      | (go_at_call 40
         have hs0 := HB.size
         refine (rMul_v r.num.natAbs (10 ^ k) z.A _ z.n _ z.c _ _ _ _ (val_lim _) (val_lim _) (by rw [hz.numLen]; omega) (by omega) hz.num hrt).mono ?_
         rintro e w1 ⟨X, c, rfl, hx, hb⟩
         replace HB := HB.trans (hb.mono HB.size)
         replace k_z := k_z.below hb
         replace hz := hz.below hb
         have hrx := hx.rowz
         have hcx := hx.capLe
         clear hx hrt
         clear hb hs0
         clear z_0 z_1 z_2 z_3 z_4 z_5
         obtain ⟨z_0, z_1, z_2, z_3, z_4, z_5⟩ := k_z.facts)
      | (go_at_call 50
         have hs0 := HB.size
         refine (rDivMod_pos _ z.B _ z.m _ z.d (r.num.natAbs * 10 ^ k) r.den _ _ _ (by omega) (by rw [hz.denLen]; omega) hcx hz.denCap hrx hz.den (val_lim _) (val_lim _) HP.out).mono ?_
         rintro e w1 ⟨X2, c2, Y2, d2, rfl, ho1, ho2, hb⟩
         replace HB := HB.trans (hb.mono HB.size)
         replace k_z := k_z.below hb
         replace hz := hz.below hb
         replace ho1 := ho1.lower (lo' := w.heap.size) hs0
         have hr2 := ho2.rowz
         have hc2 := ho2.capLe
         clear ho2
         clear hb hs0
         clear z_0 z_1 z_2 z_3 z_4 z_5
         obtain ⟨z_0, z_1, z_2, z_3, z_4, z_5⟩ := k_z.facts))
  go_wp2_with fail
  replace hz := hz.drewn
  replace k_z := k_z.drew
  replace HB := HB.drew
  replace ho1 := ho1.drew
  replace hr2 := hr2.drew
  obtain ⟨s, hs⟩ : ∃ s : Int, cmpI ((r.num.natAbs * 10 ^ k % r.den) + (r.num.natAbs * 10 ^ k % r.den)) r.den = s := ⟨_, rfl⟩
  have HS := Lib.hid hs
  clear hs
  go_region_held3 (fun w' => w'.cell? ⟨zb, 0, none⟩ = some (.bool z.s) ∧ w'.cell? ⟨zb, 1, none⟩ = some (.slice z.A z.n z.c) ∧ w'.cell? ⟨zb, 2, none⟩ = some (.slice z.B z.m z.d)) (go_keep)
      (first
      | (go_at_call 39
         have hs0 := HB.size
         refine (rAdd_v (r.num.natAbs * 10 ^ k % r.den) (r.num.natAbs * 10 ^ k % r.den) _ _ _ _ _ _ _ _ _ (val_lim _) (val_lim _) (by omega) (by omega) hr2 hr2).mono ?_
         rintro e w1 ⟨T, d, rfl, ht, hb⟩
         replace HB := HB.trans (hb.mono HB.size)
         replace k_z := k_z.below hb
         replace hz := hz.below hb
         replace ho1 := ho1.below hb
         have hrt := ht.rowz
         have hct := ht.capLe
         clear ht hr2
         clear hb hs0
         clear z_0 z_1 z_2 z_3 z_4 z_5
         obtain ⟨z_0, z_1, z_2, z_3, z_4, z_5⟩ := k_z.facts)
      | (go_at_call 63
         have hs0 := HB.size
         refine (rCmp_v ((r.num.natAbs * 10 ^ k % r.den) + (r.num.natAbs * 10 ^ k % r.den)) r.den s _ z.B _ z.m _ z.d _ _ _ (val_lim _) (val_lim _) HS.out (by omega) (by rw [hz.denLen]; omega) hct hz.denCap hrt hz.den).mono ?_
         rintro e w1 ⟨rfl, hb⟩
         replace HB := HB.trans (hb.mono HB.size)
         replace k_z := k_z.below hb
         replace hz := hz.below hb
         replace ho1 := ho1.below hb
         clear hb hs0
         clear z_0 z_1 z_2 z_3 z_4 z_5
         obtain ⟨z_0, z_1, z_2, z_3, z_4, z_5⟩ := k_z.facts))
  rw [HS.out] at HUN
  have HO := Lib.hid ho1
  have hro := ho1.rowz
  clear HS ho1 k_z hz z_0 z_1 z_2 z_3 z_4 z_5
  obtain ⟨q, hq⟩ : ∃ q, q = (r.num.natAbs * 10 ^ k / r.den) := ⟨_, rfl⟩
  rw [← hq] at HUN HO hro hql ⊢
  clear hq hub hrl hrrl
  have up : Hid (∀ W : World, Below w.heap.size w W → Row W 0 X2 (lim q).length (lim q) → un r k = q + 1 →
      Calls Tryz.prog 39 #[.slice X2 (lim q).length c2, .slice (some ⟨W.heap.size, 0, none⟩) 1 1] (W.alloc (.cells #[.int .u32 1] 50)) fun e w' => ∃ X c, e = .returned (.slice X (lim (un r k)).length c) ∧ Own w' w.heap.size X c (lim (un r k)).length (lim (un r k)) ∧ Below w.heap.size w w') := by
    intro W hbW hrW hu
    refine (rAdd_v q 1 _ _ _ 1 _ _ _ [1] _ (val_lim _) (val_one _) (by omega) (by omega) (hrW.alloc _) (Row.lit1 _ 1 1 rfl (by omega))).mono ?_
    rintro e w3 ⟨X3, c3, rfl, ho, hb⟩
    have hs := hbW.size
    rw [hu]
    exact ⟨X3, c3, rfl, ho.lower (by simp; omega), (hbW.alloc hs _).trans (hb.mono (by simp; omega))⟩
  have fin : Hid (∀ W : World, Below w.heap.size w W → Own W w.heap.size X2 c2 (lim q).length (lim q) → un r k = q → ∃ X c, Ending.returned (.slice X2 (lim q).length c2) = .returned (.slice X (lim (un r k)).length c) ∧ Own W w.heap.size X c (lim (un r k)).length (lim (un r k)) ∧ Below w.heap.size w W) := by
    intro W hbW hoW hu
    rw [hu]
    exact ⟨X2, c2, rfl, hoW, hbW⟩
  rcases HUN.out with ⟨rfl, hu⟩ | ⟨rfl, hu⟩ | ⟨rfl, hodd, hu⟩ | ⟨rfl, hodd, hu⟩
  · have HU := Lib.hid hu
    clear hu HUN
    go_wp2_with fail
    refine (up.out _ HB hro HU.out).mono ?_
    rintro e w3 ⟨X3, c3, rfl, ho, hb⟩
    have HO3 := Lib.hid ho
    clear ho
    go_wp2
    go_ret
    exact ⟨X3, c3, rfl, HO3.out, hb⟩
  · have HU := Lib.hid hu
    clear hu HUN
    go_wp2
    go_ret
    exact fin.out _ HB HO.out HU.out
  · have HU := Lib.hid hu
    have h2 : q % 2 = 1 := of_decide_eq_true hodd
    have hq0 : q ≠ 0 := by omega
    clear hu HUN hodd
    have hl0 : 0 < (lim q).length := by rw [lim_pos hq0]; simp
    obtain ⟨g, off, rfl, _, _, hc⟩ := hro.mem hl0
    have hc0 := hc 0 hl0
    have hd : dg (lim q) 0 = q % 4294967296 := by rw [lim_pos hq0]; rfl
    rw [hd, Nat.add_zero] at hc0
    obtain ⟨u, hu⟩ : ∃ u, u = q % 4294967296 := ⟨_, rfl⟩
    rw [← hu] at hc0
    have hu32 : u < 4294967296 := by omega
    have hu2 : u % 2 = 1 := by omega
    have hand : bits BinOp.and IntKind.u32 (u : Int) 1 = 1 := by rw [and_one hu32, hu2]; rfl
    clear hc hd hu h2 hq0 hu2
    go_wp2_with fail
    refine (up.out _ HB hro HU.out).mono ?_
    rintro e w3 ⟨X3, c3, rfl, ho, hb⟩
    have HO3 := Lib.hid ho
    clear ho
    go_wp2
    go_ret
    exact ⟨X3, c3, rfl, HO3.out, hb⟩
  · have HU := Lib.hid hu
    have h2 : ¬ q % 2 = 1 := of_decide_eq_false hodd
    clear hu HUN hodd
    by_cases hq0 : q = 0
    · have hl0 : (lim q).length ≤ 0 := by rw [hq0, lim_zero]; simp
      clear h2 hq0
      go_wp2
      go_ret
      exact fin.out _ HB HO.out HU.out
    · have hl0 : 0 < (lim q).length := by rw [lim_pos hq0]; simp
      obtain ⟨g, off, rfl, _, _, hc⟩ := hro.mem hl0
      have hc0 := hc 0 hl0
      have hd : dg (lim q) 0 = q % 4294967296 := by rw [lim_pos hq0]; rfl
      rw [hd, Nat.add_zero] at hc0
      obtain ⟨u, hu⟩ : ∃ u, u = q % 4294967296 := ⟨_, rfl⟩
      rw [← hu] at hc0
      have hu32 : u < 4294967296 := by omega
      have hu2 : u % 2 = 0 := by omega
      have hand : bits BinOp.and IntKind.u32 (u : Int) 1 = 0 := by rw [and_one hu32, hu2]; rfl
      clear hc hd hu h2 hq0 hu2
      go_wp2
      go_ret
      exact fin.out _ HB HO.out HU.out
end Go.Proofs.YtcmomoalohibiaaGreatDoor

namespace Go.Proofs.YtcmomoalohibiaaGreatDoor
set_option maxRecDepth 20000
open Go.RowKit

set_option maxRecDepth 100000 in
set_option maxHeartbeats 8000000 in
theorem rdPrint_any (F : ByteArray) (v : Rv) (r : Rat) (w : World) (hF : F.data.toList = dpr r) (hv : Rw w v r 60) :
    Calls Tryz.prog 19 #[.agg #[.bool v.s, .slice v.A v.n v.c, .slice v.B v.m v.d]] w fun e w' => e = .returned (.string F) ∧ Below w.heap.size w w' := by
  have sz := hv.sz (by omega)
  have hnl : (lim r.num.natAbs).length ≤ 60 := sz.num.len
  have hdl : (lim r.den).length ≤ 60 := sz.den.len
  have l1 := dec_len_lim (x := r.num.natAbs) (p := 60) (by omega) hnl
  have l2 := dec_len_lim (x := r.den) (p := 60) (by omega) hdl
  obtain ⟨S, hS⟩ := str_data (Lib.decDigits r.num.natAbs)
  obtain ⟨D, hD⟩ := str_data (Lib.decDigits r.den)
  obtain ⟨Z, hZ⟩ := str_data (sgnd (decide (r.num < 0)) [])
  have s1 : S.size ≤ 10000 := by rw [str_size hS]; omega
  have s2 : D.size ≤ 10000 := by rw [str_size hD]; omega
  have s3 : Z.size ≤ 1 := by rw [str_size hZ]; have := sgnd_len (decide (r.num < 0)) []; simpa using this
  obtain ⟨T, hT⟩ : ∃ T : ByteArray, Z ++ S = T := ⟨_, rfl⟩
  have hTd : T.data.toList = sgnd (decide (r.num < 0)) (Lib.decDigits r.num.natAbs) := by rw [← hT, app_data, hZ, hS, sgnd_app]
  have s4 : T.size ≤ 10001 := by rw [← hT, ByteArray.size_append]; omega
  have s5 : (Z.size : Int) + (S.size : Int) ≤ 10001 := by omega
  have s6 : ¬ (9223372036854775807 < Z.size + S.size) := by omega
  have s7 : ¬ (Z.size + S.size > 9223372036854775807) := by omega
  have HF : Hid (F = if r.den = 1 then T else T ++ ⟨#[47]⟩ ++ D) := by
    show _ = _
    split
    · rw [str_of F _ hF, str_of T _ hTd]; unfold dpr; rw [if_pos (by assumption), List.append_nil]
    · rw [str_of F _ hF, str_of (T ++ ⟨#[47]⟩ ++ D) (sgnd (decide (r.num < 0)) (Lib.decDigits r.num.natAbs) ++ 47 :: Lib.decDigits r.den) (by rw [app_data, app_data, hTd, hD]; show _ ++ [47] ++ _ = _; rw [List.append_assoc]; rfl)]
      unfold dpr; rw [if_neg (by assumption)]
  have HS := Lib.hid hS
  have HD := Lib.hid hD
  have HZ := Lib.hid hZ
  have HTE := Lib.hid hT
  have HP : Hid (r.den ≠ 0) := r.den_nz
  clear hS hD hTd hF hZ hT
  go_enter Tryz.func19, Tryz.ntmps19
  go_wp2_with fail
  generalize hW : (w.alloc (.cells #[.bool v.s, .slice v.A v.n v.c, .slice v.B v.m v.d] 24)) = W
  obtain ⟨k_v, HB, hsW⟩ := open1 w v W hW
  clear hW
  obtain ⟨v_0, v_1, v_2, v_3, v_4, v_5⟩ := k_v.facts
  refine (rNorm_c v r _ (hv.below HB)).mono ?_
  rintro e w1 ⟨z, rfl, hz, hb⟩
  replace k_v := k_v.below hb
  replace HB := HB.trans (hb.mono HB.size)
  clear hb v_0 v_1 v_2 v_3 v_4 v_5
  obtain ⟨v_0, v_1, v_2, v_3, v_4, v_5⟩ := k_v.facts
  go_wp2_with fail
  clear v_0 v_1 v_2 v_3 v_4 v_5
  have k_z := C3.new w1 (.bool z.s) (.slice z.A z.n z.c) (.slice z.B z.m z.d)
  have hbn : Below w1.heap.size w1 (w1.alloc (.cells #[.bool z.s, .slice z.A z.n z.c, .slice z.B z.m z.d] 24)) := (Below.refl _ _).alloc (Nat.le_refl _) _
  replace HB := HB.trans (hbn.mono HB.size)
  replace k_v := k_v.below hbn
  replace hz := hz.below hbn
  clear hbn
  generalize hW2 : w1.alloc (.cells #[.bool z.s, .slice z.A z.n z.c, .slice z.B z.m z.d] 24) = W2 at *
  have hzb : w.heap.size ≤ w1.heap.size := by
    have h1 : W2.heap.size = w1.heap.size + 1 := by rw [← hW2]; simp
    have h2 := k_v.lt
    omega
  clear hW2
  generalize w1.heap.size = zb at *
  replace hz := hz.lower (lo' := 0) (Nat.zero_le _)
  clear k_v
  rw [← hz.sign] at HZ
  replace hz := hz.drewn
  obtain ⟨z_0, z_1, z_2, z_3, z_4, z_5⟩ := k_z.facts
  replace k_z := k_z.drew
  replace HB := HB.drew
  have hT := HTE.out
  go_region_held3 (fun w' => w'.cell? ⟨zb, 0, none⟩ = some (.bool z.s) ∧ w'.cell? ⟨zb, 1, none⟩ = some (.slice z.A z.n z.c) ∧ w'.cell? ⟨zb, 2, none⟩ = some (.slice z.B z.m z.d)) (go_keep)
      (first
      | (go_at_call 54
         refine (sign_s z.s Z _ HZ.out).mono ?_
         rintro e w1 ⟨rfl, rfl⟩)
      | (go_at_call 32
         have hs0 := HB.size
         refine (rPrint_s S z.A z.n z.c r.num.natAbs _ _ HS.out (val_lim _) (by rw [hz.numLen]; omega) hz.numCap hz.num).mono ?_
         rintro e w1 ⟨rfl, hb⟩
         replace HB := HB.trans (hb.mono HB.size)
         replace k_z := k_z.below hb
         replace hz := hz.below hb
         clear hb hs0
         clear z_0 z_1 z_2 z_3 z_4 z_5
         obtain ⟨z_0, z_1, z_2, z_3, z_4, z_5⟩ := k_z.facts))
  clear HZ hT
  have HM : Hid (z.m = (lim r.den).length) := hz.denLen
  have hm60 : z.m ≤ 60 := by rw [HM.out]; omega
  have more : r.den ≠ 1 → Hid (F = T ++ ⟨#[47]⟩ ++ D) := fun h => by show _ = _; rw [HF.out, if_neg h]
  by_cases hm1 : z.m = 1
  · have q1 : ((z.m : Int) != 1) = false := by rw [bne_eq_false_iff_eq]; omega
    have hm0 : 0 < z.m := by omega
    obtain ⟨hl, h32⟩ := lim_one_of HP.out (by rw [← HM.out]; exact hm1)
    obtain ⟨g, off, hzB, _, _, hc⟩ := hz.den.mem hm0
    have hc0 := hc 0 hm0
    have hd : dg (lim r.den) 0 = r.den := by rw [hl]; rfl
    rw [hd, Nat.add_zero] at hc0
    have hz2 := hz
    obtain ⟨u, hu⟩ : ∃ u, u = r.den := ⟨_, rfl⟩
    rw [← hu] at hc0
    clear hc hd hm1 hl
    by_cases h1 : r.den = 1
    · have HF2 : Hid (F = T) := by show _ = _; rw [HF.out, if_pos h1]
      have q2 : ((u : Int) != 1) = false := by rw [bne_eq_false_iff_eq]; omega
      clear h1 HF more hu hz hz2
      rw [hzB] at z_2
      go_wp2
      go_ret
      exact ⟨by rw [HF2.out]; rfl, HB⟩
    · have HF2 := more h1
      have q2 : ((u : Int) != 1) = true := by rw [bne_iff_ne]; omega
      clear h1 HF more hu hz
      have hz3 := hz2.den
      have hz4 := hz2.denCap
      clear hz2
      rw [hzB] at z_2 hz3
      go_wp2_with fail
      refine (rPrint_s D _ z.m z.d r.den _ _ HD.out (val_lim _) (by omega) hz4 hz3).mono ?_
      rintro e w3 ⟨rfl, hb⟩
      replace HB := HB.trans (hb.mono HB.size)
      clear hb z_0 z_1 z_2 z_3 z_4 z_5
      go_wp2
      go_ret
      exact ⟨by rw [HF2.out]; rfl, HB⟩
  · have q1 : ((z.m : Int) != 1) = true := by rw [bne_iff_ne]; omega
    have h1 : r.den ≠ 1 := by
      intro h
      have := HM.out
      rw [h, lim_one_limb (by omega) (by omega)] at this
      exact hm1 this
    have HF2 := more h1
    have hz3 := hz.den
    have hz4 := hz.denCap
    clear h1 HF more hm1 hz
    go_wp2_with fail
    refine (rPrint_s D _ z.m z.d r.den _ _ HD.out (val_lim _) (by omega) hz4 hz3).mono ?_
    rintro e w3 ⟨rfl, hb⟩
    replace HB := HB.trans (hb.mono HB.size)
    clear hb z_0 z_1 z_2 z_3 z_4 z_5
    go_wp2
    go_ret
    exact ⟨by rw [HF2.out]; rfl, HB⟩

set_option maxRecDepth 100000 in
set_option maxHeartbeats 8000000 in
theorem rRound_any (v : Rv) (r : Rat) (i : Int) (w : World) (hi : -9223372036854775808 ≤ i ∧ i ≤ 9223372036854775807) (hv : Rw w v r 40) :
    Calls Tryz.prog 21 #[.agg #[.bool v.s, .slice v.A v.n v.c, .slice v.B v.m v.d], .int .i64 i] w fun e w' => ∃ z : Rv, e = .returned (.agg #[.bool z.s, .slice z.A z.n z.c, .slice z.B z.m z.d]) ∧ Rt w' w.heap.size z (rnd r (hsc i)) ∧ Below w.heap.size w w' := by
  have sz := hv.sz (by omega)
  have hk9 := hsc_le i
  have hul : (lim (un r (hsc i))).length ≤ 60 := by have := un_len sz (hsc i); omega
  have htl : (lim (10 ^ hsc i)).length ≤ 60 := by have := ten_len (k := hsc i) (m := 9) hk9; omega
  have HH := Lib.hid (hsc_cast i)
  obtain ⟨h1, h2⟩ := hi
  have HR : Hid (rn (decide (r.num < 0)) (un r (hsc i)) (10 ^ hsc i) = rnd r (hsc i)) := rfl
  have hfd : ∀ (z : Rv) (w : World), (Instr.field 24 (.agg #[.bool z.s, .slice z.A z.n z.c, .slice z.B z.m z.d]) 0).run Tryz.prog w = .ok (.bool z.s) w := fun _ _ => by kernel_rfl
  have hm := HH.out
  clear HH
  go_enter Tryz.func21, Tryz.ntmps21
  go_wp2_with fail
  generalize hW : ((w.alloc (.cells #[.bool v.s, .slice v.A v.n v.c, .slice v.B v.m v.d] 24)).alloc (.cells #[.bool false, .slice none 0 0, .slice none 0 0] 24)) = W
  obtain ⟨k_v, k_r, HB, hsW⟩ := open1z w v W hW
  have k_r : C3 W (w.heap.size + 1) (.bool false) (.slice none 0 0) (.slice none 0 0) := k_r
  clear hW hsW hm h1 h2
  have hv2 := (hv.below HB).drew
  clear hv
  obtain ⟨v_0, v_1, v_2, v_3, v_4, v_5⟩ := k_v.facts
  obtain ⟨r_0, r_1, r_2, r_3, r_4, r_5⟩ := k_r.facts
  replace k_v := k_v.drew
  replace k_r := k_r.drew
  replace HB := HB.drew
  go_region_held3 (fun w' => w'.cell? ⟨w.heap.size, 0, none⟩ = some (.bool v.s) ∧ w'.cell? ⟨w.heap.size, 1, none⟩ = some (.slice v.A v.n v.c) ∧ w'.cell? ⟨w.heap.size, 2, none⟩ = some (.slice v.B v.m v.d)) (go_keep)
      (first
      | (go_at_call 24
         have hs0 := HB.size
         refine (rNorm_c v r _ (hv2.more (by omega))).mono ?_
         rintro e w1 ⟨z, rfl, hz, hb⟩
         replace HB := HB.trans (hb.mono HB.size)
         replace k_v := k_v.below hb
         replace k_r := k_r.below hb
         replace hv2 := hv2.below hb
         have hzs := Lib.hid hz.sign
         clear hz
         have hfd2 := fun W => hfd z W
         clear hb hs0
         clear v_0 v_1 v_2 v_3 v_4 v_5 r_0 r_1 r_2 r_3 r_4 r_5
         obtain ⟨v_0, v_1, v_2, v_3, v_4, v_5⟩ := k_v.facts
         obtain ⟨r_0, r_1, r_2, r_3, r_4, r_5⟩ := k_r.facts)
      | (go_at_call 58
         have hs0 := HB.size
         refine (units_any v r (hsc i) _ hv2 (by omega)).mono ?_
         rintro e w1 ⟨X, c, rfl, hx, hb⟩
         replace HB := HB.trans (hb.mono HB.size)
         replace k_v := k_v.below hb
         replace k_r := k_r.below hb
         have hrx := hx.rowz
         have hcx := hx.capLe
         clear hx hv2
         clear hb hs0
         clear v_0 v_1 v_2 v_3 v_4 v_5 r_0 r_1 r_2 r_3 r_4 r_5
         obtain ⟨v_0, v_1, v_2, v_3, v_4, v_5⟩ := k_v.facts
         obtain ⟨r_0, r_1, r_2, r_3, r_4, r_5⟩ := k_r.facts)
      | (go_at_call 38
         have hs0 := HB.size
         refine (ten_any (hsc i) _ (by omega)).mono ?_
         rintro e w1 ⟨T, d, rfl, ht, hb⟩
         replace HB := HB.trans (hb.mono HB.size)
         replace k_v := k_v.below hb
         replace k_r := k_r.below hb
         replace hrx := hrx.below hb
         have hrt := ht.rowz
         have hct := ht.capLe
         clear ht
         clear hb hs0
         clear v_0 v_1 v_2 v_3 v_4 v_5 r_0 r_1 r_2 r_3 r_4 r_5
         obtain ⟨v_0, v_1, v_2, v_3, v_4, v_5⟩ := k_v.facts
         obtain ⟨r_0, r_1, r_2, r_3, r_4, r_5⟩ := k_r.facts)
      | (go_at_call 31
         have hlr := k_r.lt
         have hs0 := HB.size
         refine (rOf_n z.s X T _ _ c d (un r (hsc i)) (10 ^ hsc i) _ _ (rnd r (hsc i)) _ (val_lim _) (val_lim _) hul htl hcx hct hrx hrt (by rw [hzs.out]; exact HR.out)).mono ?_
         rintro e w1 ⟨y, rfl, hy, hb⟩
         replace HB := HB.trans (hb.mono HB.size)
         replace k_v := k_v.below hb
         replace k_r := k_r.below hb
         replace hy := hy.lower (lo' := w.heap.size + 2) (by omega)
         clear hlr
         clear hb hs0
         clear v_0 v_1 v_2 v_3 v_4 v_5 r_0 r_1 r_2 r_3 r_4 r_5
         obtain ⟨v_0, v_1, v_2, v_3, v_4, v_5⟩ := k_v.facts
         obtain ⟨r_0, r_1, r_2, r_3, r_4, r_5⟩ := k_r.facts))
  clear v_0 v_1 v_2 v_3 v_4 v_5 r_0 r_1 r_2 r_3 r_4 r_5 hfd
  obtain ⟨r_0, r_1, r_2, r_3, r_4, r_5⟩ := k_r.facts
  go_wp2
  refine ret3 (fn := Tryz.f21) Tryz.results21 rfl rfl k_r ?_
  exact ⟨y, rfl, (hy.put (by omega) _ _ _).lower (by omega), HB.trans (put3_below (by omega) _ _ _)⟩

set_option maxRecDepth 100000 in
set_option maxHeartbeats 8000000 in
theorem rFixed_any (F : ByteArray) (v : Rv) (r : Rat) (i : Int) (w : World) (hF : F.data.toList = fxd r (hsc i)) (hi : -9223372036854775808 ≤ i ∧ i ≤ 9223372036854775807) (hv : Rw w v r 40) :
    Calls Tryz.prog 23 #[.agg #[.bool v.s, .slice v.A v.n v.c, .slice v.B v.m v.d], .int .i64 i] w fun e w' => e = .returned (.string F) ∧ Below w.heap.size w w' := by
  have sz := hv.sz (by omega)
  have hk9 := hsc_le i
  have hul : (lim (un r (hsc i))).length ≤ 1000 := by have := un_len sz (hsc i); omega
  have HH := Lib.hid (hsc_cast i)
  have HF : Hid (F.data.toList = sgnd (decide (r.num < 0) && decide (un r (hsc i) ≠ 0)) (fx (un r (hsc i)) (hsc i))) := hF
  obtain ⟨h1, h2⟩ := hi
  have hfd : ∀ (z : Rv) (w : World), (Instr.field 24 (.agg #[.bool z.s, .slice z.A z.n z.c, .slice z.B z.m z.d]) 0).run Tryz.prog w = .ok (.bool z.s) w := fun _ _ => by kernel_rfl
  have hm := HH.out
  clear HH hF
  go_enter Tryz.func23, Tryz.ntmps23
  go_wp2_with fail
  generalize hW : (w.alloc (.cells #[.bool v.s, .slice v.A v.n v.c, .slice v.B v.m v.d] 24)) = W
  obtain ⟨k_v, HB, hsW⟩ := open1 w v W hW
  clear hW hsW hm h1 h2
  have hv2 := (hv.below HB).drew
  clear hv
  obtain ⟨v_0, v_1, v_2, v_3, v_4, v_5⟩ := k_v.facts
  replace k_v := k_v.drew
  replace HB := HB.drew
  go_region_held3 (fun w' => w'.cell? ⟨w.heap.size, 0, none⟩ = some (.bool v.s) ∧ w'.cell? ⟨w.heap.size, 1, none⟩ = some (.slice v.A v.n v.c) ∧ w'.cell? ⟨w.heap.size, 2, none⟩ = some (.slice v.B v.m v.d)) (go_keep)
      (first
      | (go_at_call 24
         have hs0 := HB.size
         refine (rNorm_c v r _ (hv2.more (by omega))).mono ?_
         rintro e w1 ⟨z, rfl, hz, hb⟩
         replace HB := HB.trans (hb.mono HB.size)
         replace k_v := k_v.below hb
         replace hv2 := hv2.below hb
         have hzs := Lib.hid hz.sign
         clear hz
         have hfd2 := fun W => hfd z W
         clear hb hs0
         clear v_0 v_1 v_2 v_3 v_4 v_5
         obtain ⟨v_0, v_1, v_2, v_3, v_4, v_5⟩ := k_v.facts)
      | (go_at_call 58
         have hs0 := HB.size
         refine (units_any v r (hsc i) _ hv2 (by omega)).mono ?_
         rintro e w1 ⟨X, c, rfl, hx, hb⟩
         replace HB := HB.trans (hb.mono HB.size)
         replace k_v := k_v.below hb
         have hrx := hx.rowz
         have hcx := hx.capLe
         clear hx hv2
         clear hb hs0
         clear v_0 v_1 v_2 v_3 v_4 v_5
         obtain ⟨v_0, v_1, v_2, v_3, v_4, v_5⟩ := k_v.facts)
      | (go_at_call 51
         have hs0 := HB.size
         refine (point_s F X c _ (hsc i) z.s _ (by rw [hzs.out]; exact HF.out) hul hcx (by omega) hrx).mono ?_
         rintro e w1 ⟨rfl, hb⟩
         replace HB := HB.trans (hb.mono HB.size)
         replace k_v := k_v.below hb
         clear hb hs0
         clear v_0 v_1 v_2 v_3 v_4 v_5
         obtain ⟨v_0, v_1, v_2, v_3, v_4, v_5⟩ := k_v.facts))
  clear v_0 v_1 v_2 v_3 v_4 v_5 hfd
  go_wp2
  go_ret
  exact ⟨rfl, HB⟩
end Go.Proofs.YtcmomoalohibiaaGreatDoor

namespace Go.Proofs.YtcmomoalohibiaaGreatDoor
set_option maxRecDepth 20000
open Go.RowKit

theorem TrimRight_s (S T : ByteArray) (w : World) (hT : T.data.toList = Lib.trimRightB S.data.toList 48) (hs : S.size ≤ 1000000) :
    Calls Tryz.prog 46 #[.string S, .string ⟨#[48]⟩] w fun e w' => e = .returned (.string T) ∧ w = w' := by
  refine (Tryz.strings_TrimRight_one S 48 (by decide) w (by omega)).mono ?_
  rintro e w' ⟨rfl, rfl⟩
  exact ⟨by rw [← hT], rfl⟩
theorem TrimSuffix_s (S T : ByteArray) (w : World) (hT : T.data.toList = Lib.trimSuffix S.data.toList [46]) (hs : S.size ≤ 1000000) :
    Calls Tryz.prog 49 #[.string S, .string ⟨#[46]⟩] w fun e w' => e = .returned (.string T) ∧ w = w' := by
  refine (Tryz.strings_TrimSuffix S ⟨#[46]⟩ w (by omega)).mono ?_
  rintro e w' ⟨rfl, rfl⟩
  have e1 : (⟨#[46]⟩ : ByteArray).data.toList = [46] := rfl
  exact ⟨by rw [e1, ← hT], rfl⟩
theorem trimR_len (l : List UInt8) (c : UInt8) : (Lib.trimRightB l c).length ≤ l.length := by
  unfold Lib.trimRightB
  rw [List.length_reverse]
  have := (List.dropWhile_sublist (p := (· == c)) (l := l.reverse)).length_le
  rw [List.length_reverse] at this
  exact this
/-- A number in the fewest digits that tell it. -/
def ext (r : Rat) (K : Nat) : List UInt8 := sgnd (decide (r.num < 0)) (fx (r.num.natAbs * 10 ^ K / r.den) K)
theorem ExAt.same {x y K L : Nat} (h : ExAt x y K) (h' : ExAt x y L) : K = L := by
  rcases Nat.lt_trichotomy K L with h1 | h1 | h1
  · exact absurd h.tells (h'.least K h1)
  · exact h1
  · exact absurd h'.tells (h.least L h1)
theorem ext_flag {r : Rat} {K : Nat} (h : ExAt r.num.natAbs r.den K) : (decide (r.num < 0) && decide (r.num.natAbs * 10 ^ K / r.den ≠ 0)) = decide (r.num < 0) := by
  by_cases h1 : r.num < 0
  · have h2 : r.num.natAbs * 10 ^ K ≠ 0 := Nat.mul_ne_zero (by omega) (by have := ten_pos K; omega)
    obtain ⟨q, hq⟩ := h.tells
    have h3 : r.num.natAbs * 10 ^ K / r.den ≠ 0 := by
      rw [hq, Nat.mul_div_cancel_left _ r.den_pos]
      rintro rfl
      rw [Nat.mul_zero] at hq
      exact h2 hq
    rw [decide_eq_true h1, decide_eq_true h3]; rfl
  · rw [decide_eq_false h1]; rfl
theorem fx_size {S : ByteArray} {x k : Nat} (h : S.data.toList = fx x k) (hl : (lim x).length ≤ 1000) (hk : k ≤ 1000) : S.size ≤ 20000 := by
  rw [str_size h]
  obtain ⟨q, hq⟩ : ∃ q : Nat, q = 1000 := ⟨_, rfl⟩
  have h1 : x < 10 ^ (10 * q) := by
    have h1 : x < 4294967296 ^ q := Bd.ofL (by omega)
    have h2 : 4294967296 ^ q ≤ (10 ^ 10) ^ q := Nat.pow_le_pow_left (by omega) _
    rw [Nat.pow_mul]; omega
  have := fx_len (k := k) (by omega) h1
  omega

set_option maxRecDepth 100000 in
set_option maxHeartbeats 8000000 in
theorem dExact_yes (F : ByteArray) (v : Rv) (r : Rat) (K : Nat) (w : World) (hE : ExAt r.num.natAbs r.den K) (hK : K ≤ 60) (hF : F.data.toList = ext r K) (hv : Rw w v r 400) (ht : Tb w) :
    Calls Tryz.prog 16 #[.agg #[.bool v.s, .slice v.A v.n v.c, .slice v.B v.m v.d]] w fun e w' => e = .returned (.tuple #[.string F, .bool true]) ∧ Below w.heap.size w w' := by
  have sz := hv.sz (by omega)
  have hql : (lim (r.num.natAbs * 10 ^ 60 / r.den)).length ≤ 1000 := by have := ((sz.units 60).le (Nat.div_le_self _ r.den)).len; omega
  have hrl : (lim (r.num.natAbs * 10 ^ 60 % r.den)).length ≤ 1000 := by have := ((sz.units 60).le (Nat.mod_le _ r.den)).len; omega
  have hqK : (lim (r.num.natAbs * 10 ^ K / r.den)).length ≤ 1000 := by have := ((sz.units K).le (Nat.div_le_self _ r.den)).len; omega
  have hR0 : (r.num.natAbs * 10 ^ 60 % r.den) = 0 := Nat.mod_eq_zero_of_dvd (ex_more hK hE.tells)
  have HR0 : Hid (decide ((r.num.natAbs * 10 ^ 60 % r.den) = 0) = true) := decide_eq_true hR0
  obtain ⟨S, hS⟩ := str_data (fx (r.num.natAbs * 10 ^ 60 / r.den) 60)
  obtain ⟨T, hT⟩ := str_data (Lib.trimRightB S.data.toList 48)
  obtain ⟨U, hU⟩ := str_data (fx (r.num.natAbs * 10 ^ K / r.den) K)
  have s1 := fx_size hS hql (by omega)
  have s2 : T.size ≤ 20000 := by rw [str_size hT]; have := trimR_len S.data.toList 48; rw [← Lib.size_eq] at this; omega
  have s3 := fx_size hU hqK (by omega)
  have HS := Lib.hid hS
  have HT := Lib.hid hT
  have HU : Hid (U.data.toList = Lib.trimSuffix T.data.toList [46]) := by
    show _ = _
    rw [hU, hT, hS]
    exact (fx_trim r.den_nz (by omega) hK hE).symm
  have HF : Hid (F.data.toList = sgnd (decide (r.num < 0)) U.data.toList) := by show _ = _; rw [hU]; exact hF
  clear hS hT hU hF hR0 hE
  go_enter Tryz.func16, Tryz.ntmps16
  go_wp2_with fail
  generalize hW : (w.alloc (.cells #[.bool v.s, .slice v.A v.n v.c, .slice v.B v.m v.d] 24)) = W
  obtain ⟨k_v, HB, hsW⟩ := open1 w v W hW
  clear hW
  obtain ⟨v_0, v_1, v_2, v_3, v_4, v_5⟩ := k_v.facts
  refine (Norm_any v r _ ((hv.below HB).more (by omega))).mono ?_
  rintro e w1 ⟨z, rfl, hz, hb⟩
  replace k_v := k_v.below hb
  replace HB := HB.trans (hb.mono HB.size)
  clear hb v_0 v_1 v_2 v_3 v_4 v_5
  obtain ⟨v_0, v_1, v_2, v_3, v_4, v_5⟩ := k_v.facts
  go_wp2_with fail
  clear v_0 v_1 v_2 v_3 v_4 v_5
  have k_z : C3 (((w1.setCell ⟨w.heap.size, 0, none⟩ (.bool z.s)).setCell ⟨w.heap.size, 1, none⟩ (.slice z.A z.n z.c)).setCell ⟨w.heap.size, 2, none⟩ (.slice z.B z.m z.d)) w.heap.size (.bool z.s) (.slice z.A z.n z.c) (.slice z.B z.m z.d) := k_v.put (.bool z.s) (.slice z.A z.n z.c) (.slice z.B z.m z.d)
  have hz2 : Rt (((w1.setCell ⟨w.heap.size, 0, none⟩ (.bool z.s)).setCell ⟨w.heap.size, 1, none⟩ (.slice z.A z.n z.c)).setCell ⟨w.heap.size, 2, none⟩ (.slice z.B z.m z.d)) W.heap.size z r := hz.put (b := w.heap.size) (by omega) (.bool z.s) (.slice z.A z.n z.c) (.slice z.B z.m z.d)
  have HB2 : Below w.heap.size w (((w1.setCell ⟨w.heap.size, 0, none⟩ (.bool z.s)).setCell ⟨w.heap.size, 1, none⟩ (.slice z.A z.n z.c)).setCell ⟨w.heap.size, 2, none⟩ (.slice z.B z.m z.d)) := HB.trans (put3_below (b := w.heap.size) (Nat.le_refl _) (.bool z.s) (.slice z.A z.n z.c) (.slice z.B z.m z.d))
  clear hz HB
  generalize ((w1.setCell ⟨w.heap.size, 0, none⟩ (.bool z.s)).setCell ⟨w.heap.size, 1, none⟩ (.slice z.A z.n z.c)).setCell ⟨w.heap.size, 2, none⟩ (.slice z.B z.m z.d) = W2 at *
  have hz := hz2.lower (lo' := 0) (Nat.zero_le _)
  have HB := HB2
  clear k_v hsW hz2 HB2
  obtain ⟨z_0, z_1, z_2, z_3, z_4, z_5⟩ := k_z.facts
  replace ht := ht.below HB
  rw [← hz.sign] at HF
  refine (inUnits_any z r 400 60 _ hz sz (by omega) (by omega)).mono ?_
  rintro e w1 ⟨X, cx, Y, cy, rfl, ho1, ho2, hb⟩
  replace k_z := k_z.below hb
  replace ht := ht.below hb
  replace HB := HB.trans (hb.mono HB.size)
  have hr1 := ho1.rowz
  have hc1 := ho1.capLe
  have hr2 := ho2.rowz
  have hc2 := ho2.capLe
  clear hb ho1 ho2 hz z_0 z_1 z_2 z_3 z_4 z_5
  obtain ⟨z_0, z_1, z_2, z_3, z_4, z_5⟩ := k_z.facts
  go_wp2_with fail
  refine (disNought_any Y _ cy _ _ true _ (val_lim _) (by omega) hc2 hr2 HR0.out).mono ?_
  rintro e w2 ⟨rfl, rfl⟩
  go_wp2_with fail
  refine (withPoint_s S X cx _ 60 _ HS.out hql hc1 (by omega) hr1 ht).mono ?_
  rintro e w3 ⟨rfl, hb⟩
  replace k_z := k_z.below hb
  replace HB := HB.trans (hb.mono HB.size)
  clear hb ht hr1 hr2 z_0 z_1 z_2 z_3 z_4 z_5
  obtain ⟨z_0, z_1, z_2, z_3, z_4, z_5⟩ := k_z.facts
  go_wp2_with fail
  refine (TrimRight_s S T _ HT.out (by omega)).mono ?_
  rintro e w4 ⟨rfl, rfl⟩
  go_wp2_with fail
  replace k_z := k_z.drew
  replace HB := HB.drew
  go_region_held3 (fun w' => w'.cell? ⟨w.heap.size, 0, none⟩ = some (.bool z.s) ∧ w'.cell? ⟨w.heap.size, 1, none⟩ = some (.slice z.A z.n z.c) ∧ w'.cell? ⟨w.heap.size, 2, none⟩ = some (.slice z.B z.m z.d)) (go_keep)
      (first
      | (go_at_call 49
         refine (TrimSuffix_s T U _ HU.out (by omega)).mono ?_
         rintro e w1 ⟨rfl, rfl⟩)
      | (go_at_call 48
         refine (signed_s z.s U F _ HF.out (by omega)).mono ?_
         rintro e w1 ⟨rfl, rfl⟩))
  clear z_0 z_1 z_2 z_3 z_4 z_5
  go_wp2
  go_ret2
  exact ⟨rfl, HB⟩

set_option maxRecDepth 100000 in
set_option maxHeartbeats 4000000 in
theorem dExact_no (v : Rv) (r : Rat) (w : World) (hE : ¬ r.den ∣ r.num.natAbs * 10 ^ 60) (hv : Rw w v r 400) :
    Calls Tryz.prog 16 #[.agg #[.bool v.s, .slice v.A v.n v.c, .slice v.B v.m v.d]] w fun e w' => e = .returned (.tuple #[.string ⟨#[]⟩, .bool false]) ∧ Below w.heap.size w w' := by
  have sz := hv.sz (by omega)
  have hrl : (lim (r.num.natAbs * 10 ^ 60 % r.den)).length ≤ 1000 := by have := ((sz.units 60).le (Nat.mod_le _ r.den)).len; omega
  have HR0 : Hid (decide ((r.num.natAbs * 10 ^ 60 % r.den) = 0) = false) := decide_eq_false fun h => hE (Nat.dvd_of_mod_eq_zero h)
  clear hE
  go_enter Tryz.func16, Tryz.ntmps16
  go_wp2_with fail
  generalize hW : (w.alloc (.cells #[.bool v.s, .slice v.A v.n v.c, .slice v.B v.m v.d] 24)) = W
  obtain ⟨k_v, HB, hsW⟩ := open1 w v W hW
  clear hW
  obtain ⟨v_0, v_1, v_2, v_3, v_4, v_5⟩ := k_v.facts
  refine (Norm_any v r _ ((hv.below HB).more (by omega))).mono ?_
  rintro e w1 ⟨z, rfl, hz, hb⟩
  replace k_v := k_v.below hb
  replace HB := HB.trans (hb.mono HB.size)
  clear hb v_0 v_1 v_2 v_3 v_4 v_5
  obtain ⟨v_0, v_1, v_2, v_3, v_4, v_5⟩ := k_v.facts
  go_wp2_with fail
  clear v_0 v_1 v_2 v_3 v_4 v_5
  have k_z : C3 (((w1.setCell ⟨w.heap.size, 0, none⟩ (.bool z.s)).setCell ⟨w.heap.size, 1, none⟩ (.slice z.A z.n z.c)).setCell ⟨w.heap.size, 2, none⟩ (.slice z.B z.m z.d)) w.heap.size (.bool z.s) (.slice z.A z.n z.c) (.slice z.B z.m z.d) := k_v.put (.bool z.s) (.slice z.A z.n z.c) (.slice z.B z.m z.d)
  have hz2 : Rt (((w1.setCell ⟨w.heap.size, 0, none⟩ (.bool z.s)).setCell ⟨w.heap.size, 1, none⟩ (.slice z.A z.n z.c)).setCell ⟨w.heap.size, 2, none⟩ (.slice z.B z.m z.d)) W.heap.size z r := hz.put (b := w.heap.size) (by omega) (.bool z.s) (.slice z.A z.n z.c) (.slice z.B z.m z.d)
  have HB2 : Below w.heap.size w (((w1.setCell ⟨w.heap.size, 0, none⟩ (.bool z.s)).setCell ⟨w.heap.size, 1, none⟩ (.slice z.A z.n z.c)).setCell ⟨w.heap.size, 2, none⟩ (.slice z.B z.m z.d)) := HB.trans (put3_below (b := w.heap.size) (Nat.le_refl _) (.bool z.s) (.slice z.A z.n z.c) (.slice z.B z.m z.d))
  clear hz HB
  generalize ((w1.setCell ⟨w.heap.size, 0, none⟩ (.bool z.s)).setCell ⟨w.heap.size, 1, none⟩ (.slice z.A z.n z.c)).setCell ⟨w.heap.size, 2, none⟩ (.slice z.B z.m z.d) = W2 at *
  have hz := hz2.lower (lo' := 0) (Nat.zero_le _)
  have HB := HB2
  clear k_v hsW hz2 HB2
  obtain ⟨z_0, z_1, z_2, z_3, z_4, z_5⟩ := k_z.facts
  refine (inUnits_any z r 400 60 _ hz sz (by omega) (by omega)).mono ?_
  rintro e w1 ⟨X, cx, Y, cy, rfl, ho1, ho2, hb⟩
  replace HB := HB.trans (hb.mono HB.size)
  have hr2 := ho2.rowz
  have hc2 := ho2.capLe
  clear hb ho1 ho2 hz k_z z_0 z_1 z_2 z_3 z_4 z_5
  go_wp2_with fail
  refine (disNought_any Y _ cy _ _ false _ (val_lim _) (by omega) hc2 hr2 HR0.out).mono ?_
  rintro e w2 ⟨rfl, rfl⟩
  go_wp2
  go_ret2
  exact ⟨rfl, HB⟩

/-- What the document's Exact answers. -/
def RExP (F : ByteArray) (r : Rat) (w : World) (e : Ending) (w' : World) : Prop :=
  ((∃ K, K ≤ 60 ∧ ExAt r.num.natAbs r.den K ∧ e = .returned (.tuple #[.string F, .bool true])) ∨ ((∀ j, j ≤ 60 → ¬ r.den ∣ r.num.natAbs * 10 ^ j) ∧ e = .returned (.tuple #[.string ⟨#[]⟩, .bool false]))) ∧ Below w.heap.size w w'
set_option maxRecDepth 100000 in
set_option maxHeartbeats 8000000 in
theorem rExact_p (F : ByteArray) (v : Rv) (r : Rat) (w : World) (hF : ∀ K, K ≤ 60 → ExAt r.num.natAbs r.den K → F.data.toList = ext r K) (hv : Rw w v r 40) :
    Calls Tryz.prog 17 #[.agg #[.bool v.s, .slice v.A v.n v.c, .slice v.B v.m v.d]] w (RExP F r w) := by
  have sz := hv.sz (by omega)
  have hnl : (lim r.num.natAbs).length ≤ 40 := sz.num.len
  have hdl : (lim r.den).length ≤ 40 := sz.den.len
  have HF := Lib.hid hF
  have HP : Hid (0 < r.den) := r.den_pos
  have hl1 : lim 1 = [1] := by rw [lim_pos (by omega), show 1 / 4294967296 = 0 by omega, lim_zero]
  have HL1 : Hid (1 = (lim (10 ^ 0)).length) := by show _ = _; rw [Nat.pow_zero, hl1]; rfl
  have HO1 : Hid (∀ W : World, Own (W.alloc (.cells #[.int .u32 1] 50)) W.heap.size (some ⟨W.heap.size, 0, none⟩) 1 (lim (10 ^ 0)).length (lim (10 ^ 0))) := by
    intro W
    rw [Nat.pow_zero, hl1]; exact Own.lit1 W 1 1 rfl (by omega)
  clear hF hl1
  go_enter Tryz.func17, Tryz.ntmps17
  go_wp2_with fail
  generalize hW : (w.alloc (.cells #[.bool v.s, .slice v.A v.n v.c, .slice v.B v.m v.d] 24)) = W
  obtain ⟨k_v, HB, hsW⟩ := open1 w v W hW
  clear hW
  obtain ⟨v_0, v_1, v_2, v_3, v_4, v_5⟩ := k_v.facts
  refine (rNorm_c v r _ ((hv.below HB).more (by omega))).mono ?_
  rintro e w1 ⟨z, rfl, hz, hb⟩
  replace HB := HB.trans (hb.mono HB.size)
  have hzw := HB.size
  clear hb v_0 v_1 v_2 v_3 v_4 v_5 k_v hsW
  have k_z := (C3.new w1 (.bool z.s) (.slice z.A z.n z.c) (.slice z.B z.m z.d)).alloc (.cells #[.int .u32 1] 50)
  have hbn : Below w1.heap.size w1 ((w1.alloc (.cells #[.bool z.s, .slice z.A z.n z.c, .slice z.B z.m z.d] 24)).alloc (.cells #[.int .u32 1] 50)) := ((Below.refl _ _).alloc (Nat.le_refl _) _).alloc (by simp) _
  have HB2 := Lib.hid (HB.trans (hbn.mono HB.size))
  have hz2 := Lib.hid ((hz.below hbn).lower (lo' := 0) (Nat.zero_le _))
  have HK := Lib.hid k_z
  have e1 : (w1.alloc (.cells #[.bool z.s, .slice z.A z.n z.c, .slice z.B z.m z.d] 24)).heap.size = w1.heap.size + 1 := by simp
  have HO := HO1.out (w1.alloc (.cells #[.bool z.s, .slice z.A z.n z.c, .slice z.B z.m z.d] 24))
  rw [e1] at HO
  have HO2 := Lib.hid (HO.lower (lo' := w.heap.size) (by omega))
  clear hbn HB hz k_z HO HO1 e1
  have HN : Hid (∀ j, j < 0 → ¬ r.den ∣ r.num.natAbs * 10 ^ j) := fun j hj => absurd hj (by omega)
  have hzb : w.heap.size ≤ w1.heap.size := hzw
  go_wp2
  generalize w1.heap.size = zb at *
  go_loopw [5, 6] (fun tv kv wr => ∃ (k : Nat) (A : Option Addr) (c : Nat), k ≤ 61 ∧ kv = .int .i64 (k : Int) ∧ tv = .slice A (lim (10 ^ k)).length c ∧ Hid (Own wr w.heap.size A c (lim (10 ^ k)).length (lim (10 ^ k))) ∧ Hid (C3 wr zb (.bool z.s) (.slice z.A z.n z.c) (.slice z.B z.m z.d)) ∧ Hid (Rt wr 0 z r) ∧ Hid (Below w.heap.size w wr) ∧ Hid (∀ j, j < k → ¬ r.den ∣ r.num.natAbs * 10 ^ j)) (fun _ kv _ => 61 - (intOf kv).toNat)
  case atStart => exact ⟨0, _, 1, by omega, rfl, by rw [← HL1.out], HO2, HK, hz2, HB2, HN⟩
  case round =>
    obtain ⟨k, A, c, hk, rfl, rfl, HO, HKZ, HZ, HBB, HNK⟩ := hrel
    clear HO2 HK hz2 HB2 HN HL1
    by_cases h60 : k ≤ 60
    · have htl : (lim (10 ^ k)).length ≤ 7 := by have := ten_len (k := k) (m := 60) h60; omega
      have hub : (lim (r.num.natAbs * 10 ^ k)).length ≤ 64 := by have := (sz.units k).len; omega
      have hql : (lim (r.num.natAbs * 10 ^ k / r.den)).length ≤ 64 := by have := ((sz.units k).le (Nat.div_le_self _ r.den)).len; omega
      have k_z := HKZ.out
      have hz := HZ.out.drewn
      have HB := HBB.out
      have ho := HO.out.drew
      have hrt := ho.rowz
      have hct := ho.capLe
      clear HKZ HZ HBB HO
      obtain ⟨z_0, z_1, z_2, z_3, z_4, z_5⟩ := k_z.facts
      go_wp2_with fail
      replace k_z := k_z.drew
      replace HB := HB.drew
      go_region_held3 (fun w' => w'.cell? ⟨zb, 0, none⟩ = some (.bool z.s) ∧ w'.cell? ⟨zb, 1, none⟩ = some (.slice z.A z.n z.c) ∧ w'.cell? ⟨zb, 2, none⟩ = some (.slice z.B z.m z.d)) (go_keep)
          (first
          | (go_at_call 40
             have hs0 := HB.size
             refine (rMul_v r.num.natAbs (10 ^ k) z.A _ z.n _ z.c _ _ _ _ (val_lim _) (val_lim _) (by rw [hz.numLen]; omega) (by omega) hz.num hrt).mono ?_
             rintro e w1 ⟨X, cx, rfl, hx, hb⟩
             replace HB := HB.trans (hb.mono HB.size)
             replace k_z := k_z.below hb
             replace hz := hz.below hb
             replace ho := ho.below hb
             have hrx := hx.rowz
             have hcx := hx.capLe
             clear hx hrt
             clear hb hs0
             clear z_0 z_1 z_2 z_3 z_4 z_5
             obtain ⟨z_0, z_1, z_2, z_3, z_4, z_5⟩ := k_z.facts)
          | (go_at_call 50
             have hs0 := HB.size
             refine (rDivMod_pos _ z.B _ z.m _ z.d (r.num.natAbs * 10 ^ k) r.den _ _ _ (by omega) (by rw [hz.denLen]; omega) hcx hz.denCap hrx hz.den (val_lim _) (val_lim _) HP.out).mono ?_
             rintro e w1 ⟨X2, c2, Y2, d2, rfl, ho1, ho2, hb⟩
             replace HB := HB.trans (hb.mono HB.size)
             replace k_z := k_z.below hb
             replace hz := hz.below hb
             replace ho := ho.below hb
             have hr1 := ho1.rowz
             have hc1 := ho1.capLe
             clear ho1 ho2 hrx
             clear hb hs0
             clear z_0 z_1 z_2 z_3 z_4 z_5
             obtain ⟨z_0, z_1, z_2, z_3, z_4, z_5⟩ := k_z.facts))
      have hzs := hz.sign
      by_cases hd : r.den ∣ r.num.natAbs * 10 ^ k
      · have hl0 : (lim (r.num.natAbs * 10 ^ k % r.den)).length ≤ 0 := by rw [Nat.mod_eq_zero_of_dvd hd, lim_zero]; simp
        have hq0 : (((lim (r.num.natAbs * 10 ^ k % r.den)).length : Int) == 0) = true := by rw [beq_iff_eq]; omega
        have hE : ExAt r.num.natAbs r.den k := ⟨hd, HNK.out⟩
        have HFK : Hid (F.data.toList = sgnd (z.s && decide ((r.num.natAbs * 10 ^ k / r.den) ≠ 0)) (fx (r.num.natAbs * 10 ^ k / r.den) k)) := by
          show _ = _
          rw [hzs, ext_flag hE]; exact HF.out k h60 hE
        have HE : Hid (∀ W, Below w.heap.size w W → RExP F r w (.returned (.tuple #[.string F, .bool true])) W) := fun W hb => ⟨.inl ⟨k, h60, hE, rfl⟩, hb⟩
        clear hd hE hzs
        go_wp2_with fail
        refine (point_s F X2 c2 _ k z.s _ HFK.out (by omega) hc1 (by omega) hr1).mono ?_
        rintro e w3 ⟨rfl, hb⟩
        have HB3 := Lib.hid (HB.trans (hb.mono HB.size))
        clear hb z_0 z_1 z_2 z_3 z_4 z_5
        go_wp2
        go_ret2
        exact HE.out _ HB3.out
      · have hl0 : 0 < (lim (r.num.natAbs * 10 ^ k % r.den)).length := by rw [lim_pos (fun h => hd (Nat.dvd_of_mod_eq_zero h))]; simp
        have hq0 : (((lim (r.num.natAbs * 10 ^ k % r.den)).length : Int) == 0) = false := by rw [beq_eq_false_iff_ne]; omega
        have HNK2 : Hid (∀ j, j < k + 1 → ¬ r.den ∣ r.num.natAbs * 10 ^ j) := by
          intro j hj
          by_cases h : j = k
          · subst h; exact hd
          · exact HNK.out j (by omega)
        have HE : Hid (10 ^ k * 10 = 10 ^ (k + 1)) := (Nat.pow_succ _ _).symm
        have hsz := HB.size
        have hrt := ho.rowz
        clear hd hzs HNK hr1
        go_wp2_with fail
        refine (rMul_v (10 ^ k) 10 _ _ _ 1 _ _ _ [10] _ (val_lim _) (val_one _) (by omega) (by omega) (hrt.alloc _) (Row.lit1 _ 10 10 rfl (by omega))).mono ?_
        rintro e w3 ⟨B, f, rfl, ho3, hb⟩
        rw [HE.out] at ho3 ⊢
        have HO3 := Lib.hid (ho3.lower (lo' := w.heap.size) (by simp; omega))
        have HB3 := Lib.hid ((HB.alloc hsz _).trans (hb.mono (by simp; omega)))
        have HK3 := Lib.hid ((k_z.alloc _).below hb)
        have hza := hz.below ((Below.refl _ _).alloc (Nat.le_refl _) (.cells #[.int .u32 10] 50))
        have HZ3 := Lib.hid (hza.below hb)
        clear ho3 hb k_z hz hza HB hrt ho HE z_0 z_1 z_2 z_3 z_4 z_5
        go_wp2
        go_roundw
        case rel => exact ⟨k + 1, B, f, by omega, by go_num, rfl, HO3, HK3, HZ3, HB3, HNK2⟩
        case measure => simp [intOf]; omega
    · have HE : Hid (∀ W, Below w.heap.size w W → RExP F r w (.returned (.tuple #[.string ⟨#[]⟩, .bool false])) W) := fun W hb => ⟨.inr ⟨fun j hj => HNK.out j (by omega), rfl⟩, hb⟩
      clear HNK HKZ HZ HO
      go_wp2
      go_ret2
      exact HE.out _ HBB.out
end Go.Proofs.YtcmomoalohibiaaGreatDoor
