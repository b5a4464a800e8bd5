/-
  dec, seventh part: the document's units, Print, Round, Fixed.
-/
import Derived.Test.YtcmomoalohibiaaGreatDoorDecP
namespace Go.Proofs.YtcmomoalohibiaaGreatDoor
set_option maxRecDepth 20000
open Go.RowKit

theorem rPrint_s (S : ByteArray) (A : Option Addr) (n c x : Nat) (a : List Nat) (w : World) (hS : S.data.toList = Lib.decDigits x) (hx : val a = x) (hn : n ≤ 1000) (hcn : n ≤ c) (ha : Row w 0 A n a) :
    Calls Tryz.prog 32 #[.slice A n c] w fun e w' => e = .returned (.string S) ∧ Below w.heap.size w w' := by
  rw [str_of S _ hS]; exact rPrint_any A n c a x w hx hn hcn ha
theorem sign_s (b : Bool) (Z : ByteArray) (w : World) (hZ : Z.data.toList = sgnd b []) :
    Calls Tryz.prog 54 #[.bool b] w fun e w' => e = .returned (.string Z) ∧ w = w' := by
  rw [str_of Z _ hZ]; exact sign_any b w
theorem point_s (F : ByteArray) (A : Option Addr) (c x k : Nat) (neg : Bool) (w : World) (hF : F.data.toList = sgnd (neg && decide (x ≠ 0)) (fx x k)) (hl : (lim x).length ≤ 1000) (hlc : (lim x).length ≤ c) (hk : k ≤ 1000) (ha : Row w 0 A (lim x).length (lim x)) :
    Calls Tryz.prog 51 #[.bool neg, .slice A (lim x).length c, .int .i64 (k : Int)] w fun e w' => e = .returned (.string F) ∧ Below w.heap.size w w' := by
  rw [str_of F _ hF]; exact point_any A c x k neg w hl hlc hk ha
theorem lim_one_of {x : Nat} (h0 : x ≠ 0) (h : (lim x).length = 1) : lim x = [x] ∧ x < 4294967296 := by
  have h1 : x < 4294967296 ^ 1 := Bd.ofL (by omega)
  have h2 : x < 4294967296 := by omega
  exact ⟨lim_one_limb h0 h2, h2⟩

set_option maxRecDepth 100000 in
set_option maxHeartbeats 8000000 in
theorem units_any (v : Rv) (r : Rat) (k : Nat) (w : World) (hv : Rw w v r 40) (hk : k ≤ 100) :
    Calls Tryz.prog 58 #[.agg #[.bool v.s, .slice v.A v.n v.c, .slice v.B v.m v.d], .int .i64 (k : Int)] w fun e w' => ∃ X c, e = .returned (.slice X (lim (un r k)).length c) ∧ Own w' w.heap.size X c (lim (un r k)).length (lim (un r k)) ∧ Below w.heap.size w w' := by
  have sz := hv.sz (by omega)
  have htl : (lim (10 ^ k)).length ≤ 12 := by have := ten_len (k := k) (m := 100) hk; omega
  have hnl : (lim r.num.natAbs).length ≤ 40 := sz.num.len
  have hub : (lim (r.num.natAbs * 10 ^ k)).length ≤ 64 := by have := (sz.units k).len; omega
  have hql : (lim (r.num.natAbs * 10 ^ k / r.den)).length ≤ 64 := by have := ((sz.units k).le (Nat.div_le_self _ r.den)).len; omega
  have hrl : (lim (r.num.natAbs * 10 ^ k % r.den)).length ≤ 64 := by have := ((sz.units k).le (Nat.mod_le _ r.den)).len; omega
  have hrrl : (lim ((r.num.natAbs * 10 ^ k % r.den) + (r.num.natAbs * 10 ^ k % r.den))).length ≤ 200 := by
    have h := (sz.units k).le (Nat.mod_le _ r.den)
    have := (h.add h).len
    omega
  have hdl : (lim r.den).length ≤ 40 := sz.den.len
  have HUN := Lib.hid (un_cases r k)
  have HP : Hid (0 < r.den) := r.den_pos
  go_enter Tryz.func58, Tryz.ntmps58
  go_wp2_with fail
  generalize hW : (w.alloc (.cells #[.bool v.s, .slice v.A v.n v.c, .slice v.B v.m v.d] 24)) = W
  obtain ⟨k_v, HB, hsW⟩ := open1 w v W hW
  clear hW
  obtain ⟨v_0, v_1, v_2, v_3, v_4, v_5⟩ := k_v.facts
  refine (rNorm_c v r _ ((hv.below HB).more (by omega))).mono ?_
  rintro e w1 ⟨z, rfl, hz, hb⟩
  replace k_v := k_v.below hb
  replace HB := HB.trans (hb.mono HB.size)
  clear hb v_0 v_1 v_2 v_3 v_4 v_5
  obtain ⟨v_0, v_1, v_2, v_3, v_4, v_5⟩ := k_v.facts
  go_wp2_with fail
  clear v_0 v_1 v_2 v_3 v_4 v_5
  have k_z := C3.new w1 (.bool z.s) (.slice z.A z.n z.c) (.slice z.B z.m z.d)
  have hbn : Below w1.heap.size w1 (w1.alloc (.cells #[.bool z.s, .slice z.A z.n z.c, .slice z.B z.m z.d] 24)) := (Below.refl _ _).alloc (Nat.le_refl _) _
  replace HB := HB.trans (hbn.mono HB.size)
  replace k_v := k_v.below hbn
  replace hz := hz.below hbn
  clear hbn
  generalize hW2 : w1.alloc (.cells #[.bool z.s, .slice z.A z.n z.c, .slice z.B z.m z.d] 24) = W2 at *
  have hzb : w.heap.size ≤ w1.heap.size := by
    have h1 : W2.heap.size = w1.heap.size + 1 := by rw [← hW2]; simp
    have h2 := k_v.lt
    omega
  clear hW2
  generalize w1.heap.size = zb at *
  replace hz := hz.lower (lo' := 0) (Nat.zero_le _)
  clear k_v
  replace hz := hz.drewn
  obtain ⟨z_0, z_1, z_2, z_3, z_4, z_5⟩ := k_z.facts
  replace k_z := k_z.drew
  replace HB := HB.drew
  go_region_held3 (fun w' => w'.cell? ⟨zb, 0, none⟩ = some (.bool z.s) ∧ w'.cell? ⟨zb, 1, none⟩ = some (.slice z.A z.n z.c) ∧ w'.cell? ⟨zb, 2, none⟩ = some (.slice z.B z.m z.d)) (go_keep)
      (first
      | (go_at_call 38
         have hs0 := HB.size
         refine (ten_any k _ (by omega)).mono ?_
         rintro e w1 ⟨T, d, rfl, ht, hb⟩
         replace HB := HB.trans (hb.mono HB.size)
         replace k_z := k_z.below hb
         replace hz := hz.below hb
         have hrt := ht.rowz
         have hct := ht.capLe
         clear ht
         clear hb hs0
         clear z_0 z_1 z_2 z_3 z_4 z_5
         obtain ⟨z_0, z_1, z_2, z_3, z_4, z_5⟩ := k_z.facts)
      | (go_at_call 40
         have hs0 := HB.size
         refine (rMul_v r.num.natAbs (10 ^ k) z.A _ z.n _ z.c _ _ _ _ (val_lim _) (val_lim _) (by rw [hz.numLen]; omega) (by omega) hz.num hrt).mono ?_
         rintro e w1 ⟨X, c, rfl, hx, hb⟩
         replace HB := HB.trans (hb.mono HB.size)
         replace k_z := k_z.below hb
         replace hz := hz.below hb
         have hrx := hx.rowz
         have hcx := hx.capLe
         clear hx hrt
         clear hb hs0
         clear z_0 z_1 z_2 z_3 z_4 z_5
         obtain ⟨z_0, z_1, z_2, z_3, z_4, z_5⟩ := k_z.facts)
      | (go_at_call 50
         have hs0 := HB.size
         refine (rDivMod_pos _ z.B _ z.m _ z.d (r.num.natAbs * 10 ^ k) r.den _ _ _ (by omega) (by rw [hz.denLen]; omega) hcx hz.denCap hrx hz.den (val_lim _) (val_lim _) HP.out).mono ?_
         rintro e w1 ⟨X2, c2, Y2, d2, rfl, ho1, ho2, hb⟩
         replace HB := HB.trans (hb.mono HB.size)
         replace k_z := k_z.below hb
         replace hz := hz.below hb
         replace ho1 := ho1.lower (lo' := w.heap.size) hs0
         have hr2 := ho2.rowz
         have hc2 := ho2.capLe
         clear ho2
         clear hb hs0
         clear z_0 z_1 z_2 z_3 z_4 z_5
         obtain ⟨z_0, z_1, z_2, z_3, z_4, z_5⟩ := k_z.facts))
  go_wp2_with fail
  replace hz := hz.drewn
  replace k_z := k_z.drew
  replace HB := HB.drew
  replace ho1 := ho1.drew
  replace hr2 := hr2.drew
  obtain ⟨s, hs⟩ : ∃ s : Int, cmpI ((r.num.natAbs * 10 ^ k % r.den) + (r.num.natAbs * 10 ^ k % r.den)) r.den = s := ⟨_, rfl⟩
  have HS := Lib.hid hs
  clear hs
  go_region_held3 (fun w' => w'.cell? ⟨zb, 0, none⟩ = some (.bool z.s) ∧ w'.cell? ⟨zb, 1, none⟩ = some (.slice z.A z.n z.c) ∧ w'.cell? ⟨zb, 2, none⟩ = some (.slice z.B z.m z.d)) (go_keep)
      (first
      | (go_at_call 39
         have hs0 := HB.size
         refine (rAdd_v (r.num.natAbs * 10 ^ k % r.den) (r.num.natAbs * 10 ^ k % r.den) _ _ _ _ _ _ _ _ _ (val_lim _) (val_lim _) (by omega) (by omega) hr2 hr2).mono ?_
         rintro e w1 ⟨T, d, rfl, ht, hb⟩
         replace HB := HB.trans (hb.mono HB.size)
         replace k_z := k_z.below hb
         replace hz := hz.below hb
         replace ho1 := ho1.below hb
         have hrt := ht.rowz
         have hct := ht.capLe
         clear ht hr2
         clear hb hs0
         clear z_0 z_1 z_2 z_3 z_4 z_5
         obtain ⟨z_0, z_1, z_2, z_3, z_4, z_5⟩ := k_z.facts)
      | (go_at_call 63
         have hs0 := HB.size
         refine (rCmp_v ((r.num.natAbs * 10 ^ k % r.den) + (r.num.natAbs * 10 ^ k % r.den)) r.den s _ z.B _ z.m _ z.d _ _ _ (val_lim _) (val_lim _) HS.out (by omega) (by rw [hz.denLen]; omega) hct hz.denCap hrt hz.den).mono ?_
         rintro e w1 ⟨rfl, hb⟩
         replace HB := HB.trans (hb.mono HB.size)
         replace k_z := k_z.below hb
         replace hz := hz.below hb
         replace ho1 := ho1.below hb
         clear hb hs0
         clear z_0 z_1 z_2 z_3 z_4 z_5
         obtain ⟨z_0, z_1, z_2, z_3, z_4, z_5⟩ := k_z.facts))
  rw [HS.out] at HUN
  have HO := Lib.hid ho1
  have hro := ho1.rowz
  clear HS ho1 k_z hz z_0 z_1 z_2 z_3 z_4 z_5
  obtain ⟨q, hq⟩ : ∃ q, q = (r.num.natAbs * 10 ^ k / r.den) := ⟨_, rfl⟩
  rw [← hq] at HUN HO hro hql ⊢
  clear hq hub hrl hrrl
  have up : Hid (∀ W : World, Below w.heap.size w W → Row W 0 X2 (lim q).length (lim q) → un r k = q + 1 →
      Calls Tryz.prog 39 #[.slice X2 (lim q).length c2, .slice (some ⟨W.heap.size, 0, none⟩) 1 1] (W.alloc (.cells #[.int .u32 1] 50)) fun e w' => ∃ X c, e = .returned (.slice X (lim (un r k)).length c) ∧ Own w' w.heap.size X c (lim (un r k)).length (lim (un r k)) ∧ Below w.heap.size w w') := by
    intro W hbW hrW hu
    refine (rAdd_v q 1 _ _ _ 1 _ _ _ [1] _ (val_lim _) (val_one _) (by omega) (by omega) (hrW.alloc _) (Row.lit1 _ 1 1 rfl (by omega))).mono ?_
    rintro e w3 ⟨X3, c3, rfl, ho, hb⟩
    have hs := hbW.size
    rw [hu]
    exact ⟨X3, c3, rfl, ho.lower (by simp; omega), (hbW.alloc hs _).trans (hb.mono (by simp; omega))⟩
  have fin : Hid (∀ W : World, Below w.heap.size w W → Own W w.heap.size X2 c2 (lim q).length (lim q) → un r k = q → ∃ X c, Ending.returned (.slice X2 (lim q).length c2) = .returned (.slice X (lim (un r k)).length c) ∧ Own W w.heap.size X c (lim (un r k)).length (lim (un r k)) ∧ Below w.heap.size w W) := by
    intro W hbW hoW hu
    rw [hu]
    exact ⟨X2, c2, rfl, hoW, hbW⟩
  rcases HUN.out with ⟨rfl, hu⟩ | ⟨rfl, hu⟩ | ⟨rfl, hodd, hu⟩ | ⟨rfl, hodd, hu⟩
  · have HU := Lib.hid hu
    clear hu HUN
    go_wp2_with fail
    refine (up.out _ HB hro HU.out).mono ?_
    rintro e w3 ⟨X3, c3, rfl, ho, hb⟩
    have HO3 := Lib.hid ho
    clear ho
    go_wp2
    go_ret
    exact ⟨X3, c3, rfl, HO3.out, hb⟩
  · have HU := Lib.hid hu
    clear hu HUN
    go_wp2
    go_ret
    exact fin.out _ HB HO.out HU.out
  · have HU := Lib.hid hu
    have h2 : q % 2 = 1 := of_decide_eq_true hodd
    have hq0 : q ≠ 0 := by omega
    clear hu HUN hodd
    have hl0 : 0 < (lim q).length := by rw [lim_pos hq0]; simp
    obtain ⟨g, off, rfl, _, _, hc⟩ := hro.mem hl0
    have hc0 := hc 0 hl0
    have hd : dg (lim q) 0 = q % 4294967296 := by rw [lim_pos hq0]; rfl
    rw [hd, Nat.add_zero] at hc0
    obtain ⟨u, hu⟩ : ∃ u, u = q % 4294967296 := ⟨_, rfl⟩
    rw [← hu] at hc0
    have hu32 : u < 4294967296 := by omega
    have hu2 : u % 2 = 1 := by omega
    have hand : bits BinOp.and IntKind.u32 (u : Int) 1 = 1 := by rw [and_one hu32, hu2]; rfl
    clear hc hd hu h2 hq0 hu2
    go_wp2_with fail
    refine (up.out _ HB hro HU.out).mono ?_
    rintro e w3 ⟨X3, c3, rfl, ho, hb⟩
    have HO3 := Lib.hid ho
    clear ho
    go_wp2
    go_ret
    exact ⟨X3, c3, rfl, HO3.out, hb⟩
  · have HU := Lib.hid hu
    have h2 : ¬ q % 2 = 1 := of_decide_eq_false hodd
    clear hu HUN hodd
    by_cases hq0 : q = 0
    · have hl0 : (lim q).length ≤ 0 := by rw [hq0, lim_zero]; simp
      clear h2 hq0
      go_wp2
      go_ret
      exact fin.out _ HB HO.out HU.out
    · have hl0 : 0 < (lim q).length := by rw [lim_pos hq0]; simp
      obtain ⟨g, off, rfl, _, _, hc⟩ := hro.mem hl0
      have hc0 := hc 0 hl0
      have hd : dg (lim q) 0 = q % 4294967296 := by rw [lim_pos hq0]; rfl
      rw [hd, Nat.add_zero] at hc0
      obtain ⟨u, hu⟩ : ∃ u, u = q % 4294967296 := ⟨_, rfl⟩
      rw [← hu] at hc0
      have hu32 : u < 4294967296 := by omega
      have hu2 : u % 2 = 0 := by omega
      have hand : bits BinOp.and IntKind.u32 (u : Int) 1 = 0 := by rw [and_one hu32, hu2]; rfl
      clear hc hd hu h2 hq0 hu2
      go_wp2
      go_ret
      exact fin.out _ HB HO.out HU.out
end Go.Proofs.YtcmomoalohibiaaGreatDoor
