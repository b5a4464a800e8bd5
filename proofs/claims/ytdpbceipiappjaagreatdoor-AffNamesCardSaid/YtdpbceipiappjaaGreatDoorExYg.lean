/-
  The document's looks: a number's text, whether it is good; a name.
-/
import Derived.Test.YtdpbceipiappjaaGreatDoorExYr
import Derived.Test.YtdpbceipiappjaaGreatDoorLookD
namespace Go.Proofs.YtdpbceipiappjaaGreatDoor
set_option maxRecDepth 20000
open Go.RowKit

/-- The numbers of a tree are so long at most. -/
def Ex.szd : Ex → Prop
  | .bad => True | .num r => Sz r 75 | .nm _ => True | .bin _ a b => a.szd ∧ b.szd | .neg a => a.szd
def PR.Sd : PR → Prop
  | .err _ _ => True
  | .ok _ u _ _ _ => u.szd
theorem sd_then {r : PR} {f : Ex → Ex → Nat → Nat → Bool → PR} (h : r.Sd) (hf : ∀ t u p n lg, u.szd → (f t u p n lg).Sd) : (r.then f).Sd := by
  cases r with
  | err a c => trivial
  | ok t u p n lg => exact hf _ _ _ _ _ h
set_option maxRecDepth 100000 in
set_option maxHeartbeats 8000000 in
theorem rExact50_p (F : ByteArray) (v : Rv) (r : Rat) (w : World) (hF : ∀ K, K ≤ 60 → ExAt r.num.natAbs r.den K → F.data.toList = ext r K) (hv : Rw w v r 75) :
    Calls Tryz.prog 22 #[.agg #[.bool v.s, .slice v.A v.n v.c, .slice v.B v.m v.d]] w (RExP F r w) := by
  have sz := hv.sz (by omega)
  have hnl : (lim r.num.natAbs).length ≤ 75 := sz.num.len
  have hdl : (lim r.den).length ≤ 75 := sz.den.len
  have HF := Lib.hid hF
  have HP : Hid (0 < r.den) := r.den_pos
  have hl1 : lim 1 = [1] := by rw [lim_pos (by omega), show 1 / 4294967296 = 0 by omega, lim_zero]
  have HL1 : Hid (1 = (lim (10 ^ 0)).length) := by show _ = _; rw [Nat.pow_zero, hl1]; rfl
  have HO1 : Hid (∀ W : World, Own (W.alloc (.cells #[.int .u32 1] 69)) W.heap.size (some ⟨W.heap.size, 0, none⟩) 1 (lim (10 ^ 0)).length (lim (10 ^ 0))) := by
    intro W
    rw [Nat.pow_zero, hl1]; exact Own.lit1 W 1 1 rfl (by omega)
  clear hF hl1
  go_enter Tryz.func22, Tryz.ntmps22
  go_wp2_with fail
  generalize hW : (w.alloc (.cells #[.bool v.s, .slice v.A v.n v.c, .slice v.B v.m v.d] 24)) = W
  obtain ⟨k_v, HB, hsW⟩ := open1 w v W hW
  clear hW
  obtain ⟨v_0, v_1, v_2, v_3, v_4, v_5⟩ := k_v.facts
  refine (rNorm_c v r _ ((hv.below HB).more (by omega))).mono ?_
  rintro e w1 ⟨z, rfl, hz, hb⟩
  replace HB := HB.trans (hb.mono HB.size)
  have hzw := HB.size
  clear hb v_0 v_1 v_2 v_3 v_4 v_5 k_v hsW
  have k_z := (C3.new w1 (.bool z.s) (.slice z.A z.n z.c) (.slice z.B z.m z.d)).alloc (.cells #[.int .u32 1] 69)
  have hbn : Below w1.heap.size w1 ((w1.alloc (.cells #[.bool z.s, .slice z.A z.n z.c, .slice z.B z.m z.d] 24)).alloc (.cells #[.int .u32 1] 69)) := ((Below.refl _ _).alloc (Nat.le_refl _) _).alloc (by simp) _
  have HB2 := Lib.hid (HB.trans (hbn.mono HB.size))
  have hz2 := Lib.hid ((hz.below hbn).lower (lo' := 0) (Nat.zero_le _))
  have HK := Lib.hid k_z
  have e1 : (w1.alloc (.cells #[.bool z.s, .slice z.A z.n z.c, .slice z.B z.m z.d] 24)).heap.size = w1.heap.size + 1 := by simp
  have HO := HO1.out (w1.alloc (.cells #[.bool z.s, .slice z.A z.n z.c, .slice z.B z.m z.d] 24))
  rw [e1] at HO
  have HO2 := Lib.hid (HO.lower (lo' := w.heap.size) (by omega))
  clear hbn HB hz k_z HO HO1 e1
  have HN : Hid (∀ j, j < 0 → ¬ r.den ∣ r.num.natAbs * 10 ^ j) := fun j hj => absurd hj (by omega)
  have hzb : w.heap.size ≤ w1.heap.size := hzw
  go_wp2
  generalize w1.heap.size = zb at *
  go_loopw [5, 6] (fun tv kv wr => ∃ (k : Nat) (A : Option Addr) (c : Nat), k ≤ 61 ∧ kv = .int .i64 (k : Int) ∧ tv = .slice A (lim (10 ^ k)).length c ∧ Hid (Own wr w.heap.size A c (lim (10 ^ k)).length (lim (10 ^ k))) ∧ Hid (C3 wr zb (.bool z.s) (.slice z.A z.n z.c) (.slice z.B z.m z.d)) ∧ Hid (Rt wr 0 z r) ∧ Hid (Below w.heap.size w wr) ∧ Hid (∀ j, j < k → ¬ r.den ∣ r.num.natAbs * 10 ^ j)) (fun _ kv _ => 61 - (intOf kv).toNat)
  case atStart => exact ⟨0, _, 1, by omega, rfl, by rw [← HL1.out], HO2, HK, hz2, HB2, HN⟩
  case round =>
    obtain ⟨k, A, c, hk, rfl, rfl, HO, HKZ, HZ, HBB, HNK⟩ := hrel
    clear HO2 HK hz2 HB2 HN HL1
    by_cases h60 : k ≤ 60
    · have htl : (lim (10 ^ k)).length ≤ 7 := by have := ten_len (k := k) (m := 60) h60; omega
      have hub : (lim (r.num.natAbs * 10 ^ k)).length ≤ 90 := by have := (sz.units k).len; omega
      have hql : (lim (r.num.natAbs * 10 ^ k / r.den)).length ≤ 90 := by have := ((sz.units k).le (Nat.div_le_self _ r.den)).len; omega
      have k_z := HKZ.out
      have hz := HZ.out.drewn
      have HB := HBB.out
      have ho := HO.out.drew
      have hrt := ho.rowz
      have hct := ho.capLe
      clear HKZ HZ HBB HO
      obtain ⟨z_0, z_1, z_2, z_3, z_4, z_5⟩ := k_z.facts
      go_wp2_with fail
      replace k_z := k_z.drew
      replace HB := HB.drew
      go_region_held3 (fun w' => w'.cell? ⟨zb, 0, none⟩ = some (.bool z.s) ∧ w'.cell? ⟨zb, 1, none⟩ = some (.slice z.A z.n z.c) ∧ w'.cell? ⟨zb, 2, none⟩ = some (.slice z.B z.m z.d)) (go_keep)
          (first
          | (go_at_call 35
             have hs0 := HB.size
             refine (rMul_v r.num.natAbs (10 ^ k) z.A _ z.n _ z.c _ _ _ _ (val_lim _) (val_lim _) (by rw [hz.numLen]; omega) (by omega) hz.num hrt).mono ?_
             rintro e w1 ⟨X, cx, rfl, hx, hb⟩
             replace HB := HB.trans (hb.mono HB.size)
             replace k_z := k_z.below hb
             replace hz := hz.below hb
             replace ho := ho.below hb
             have hrx := hx.rowz
             have hcx := hx.capLe
             clear hx hrt
             clear hb hs0
             clear z_0 z_1 z_2 z_3 z_4 z_5
             obtain ⟨z_0, z_1, z_2, z_3, z_4, z_5⟩ := k_z.facts)
          | (go_at_call 34
             have hs0 := HB.size
             refine (rDivMod_pos _ z.B _ z.m _ z.d (r.num.natAbs * 10 ^ k) r.den _ _ _ (by omega) (by rw [hz.denLen]; omega) hcx hz.denCap hrx hz.den (val_lim _) (val_lim _) HP.out).mono ?_
             rintro e w1 ⟨X2, c2, Y2, d2, rfl, ho1, ho2, hb⟩
             replace HB := HB.trans (hb.mono HB.size)
             replace k_z := k_z.below hb
             replace hz := hz.below hb
             replace ho := ho.below hb
             have hr1 := ho1.rowz
             have hc1 := ho1.capLe
             clear ho1 ho2 hrx
             clear hb hs0
             clear z_0 z_1 z_2 z_3 z_4 z_5
             obtain ⟨z_0, z_1, z_2, z_3, z_4, z_5⟩ := k_z.facts))
      have hzs := hz.sign
      by_cases hd : r.den ∣ r.num.natAbs * 10 ^ k
      · have hl0 : (lim (r.num.natAbs * 10 ^ k % r.den)).length ≤ 0 := by rw [Nat.mod_eq_zero_of_dvd hd, lim_zero]; simp
        have hq0 : (((lim (r.num.natAbs * 10 ^ k % r.den)).length : Int) == 0) = true := by rw [beq_iff_eq]; omega
        have hE : ExAt r.num.natAbs r.den k := ⟨hd, HNK.out⟩
        have HFK : Hid (F.data.toList = sgnd (z.s && decide ((r.num.natAbs * 10 ^ k / r.den) ≠ 0)) (fx (r.num.natAbs * 10 ^ k / r.den) k)) := by
          show _ = _
          rw [hzs, ext_flag hE]; exact HF.out k h60 hE
        have HE : Hid (∀ W, Below w.heap.size w W → RExP F r w (.returned (.tuple #[.string F, .bool true])) W) := fun W hb => ⟨.inl ⟨k, h60, hE, rfl⟩, hb⟩
        clear hd hE hzs
        go_wp2_with fail
        refine (point_s F X2 c2 _ k z.s _ HFK.out (by omega) hc1 (by omega) hr1).mono ?_
        rintro e w3 ⟨rfl, hb⟩
        have HB3 := Lib.hid (HB.trans (hb.mono HB.size))
        clear hb z_0 z_1 z_2 z_3 z_4 z_5
        go_wp2
        go_ret2
        exact HE.out _ HB3.out
      · have hl0 : 0 < (lim (r.num.natAbs * 10 ^ k % r.den)).length := by rw [lim_pos (fun h => hd (Nat.dvd_of_mod_eq_zero h))]; simp
        have hq0 : (((lim (r.num.natAbs * 10 ^ k % r.den)).length : Int) == 0) = false := by rw [beq_eq_false_iff_ne]; omega
        have HNK2 : Hid (∀ j, j < k + 1 → ¬ r.den ∣ r.num.natAbs * 10 ^ j) := by
          intro j hj
          by_cases h : j = k
          · subst h; exact hd
          · exact HNK.out j (by omega)
        have HE : Hid (10 ^ k * 10 = 10 ^ (k + 1)) := (Nat.pow_succ _ _).symm
        have hsz := HB.size
        have hrt := ho.rowz
        clear hd hzs HNK hr1
        go_wp2_with fail
        refine (rMul_v (10 ^ k) 10 _ _ _ 1 _ _ _ [10] _ (val_lim _) (val_one _) (by omega) (by omega) (hrt.alloc _) (Row.lit1 _ 10 10 rfl (by omega))).mono ?_
        rintro e w3 ⟨B, f, rfl, ho3, hb⟩
        rw [HE.out] at ho3 ⊢
        have HO3 := Lib.hid (ho3.lower (lo' := w.heap.size) (by simp; omega))
        have HB3 := Lib.hid ((HB.alloc hsz _).trans (hb.mono (by simp; omega)))
        have HK3 := Lib.hid ((k_z.alloc _).below hb)
        have hza := hz.below ((Below.refl _ _).alloc (Nat.le_refl _) (.cells #[.int .u32 10] 69))
        have HZ3 := Lib.hid (hza.below hb)
        clear ho3 hb k_z hz hza HB hrt ho HE z_0 z_1 z_2 z_3 z_4 z_5
        go_wp2
        go_roundw
        case rel => exact ⟨k + 1, B, f, by omega, by go_num, rfl, HO3, HK3, HZ3, HB3, HNK2⟩
        case measure => simp [intOf]; omega
    · have HE : Hid (∀ W, Below w.heap.size w W → RExP F r w (.returned (.tuple #[.string ⟨#[]⟩, .bool false])) W) := fun W hb => ⟨.inr ⟨fun j hj => HNK.out j (by omega), rfl⟩, hb⟩
      clear HNK HKZ HZ HO
      go_wp2
      go_ret2
      exact HE.out _ HBB.out
theorem rExact50_v (F : ByteArray) (b : Bool) (v : Rv) (r : Rat) (w : World) (h : ExW F b r) (hv : Rw w v r 75) :
    Calls Tryz.prog 22 #[.agg #[.bool v.s, .slice v.A v.n v.c, .slice v.B v.m v.d]] w fun e w' => e = .returned (.tuple #[.string F, .bool b]) ∧ Below w.heap.size w w' := by
  rcases h with ⟨rfl, K, hK, hE, hF⟩ | ⟨rfl, rfl, hn⟩
  · refine (rExact50_p F v r w (fun L _ hL => by rw [hF, hE.same hL]) hv).mono ?_
    rintro e w' ⟨⟨L, _, _, rfl⟩ | ⟨h1, _⟩, hb⟩
    · exact ⟨rfl, hb⟩
    · exact absurd hE.tells (h1 K hK)
  · refine (rExact50_p ⟨#[]⟩ v r w (fun L hL hL2 => absurd hL2.tells (hn L hL)) hv).mono ?_
    rintro e w' ⟨⟨L, h1, h2, _⟩ | ⟨_, rfl⟩, hb⟩
    · exact absurd h2.tells (hn L h1)
    · exact ⟨rfl, hb⟩
set_option maxHeartbeats 1600000 in
theorem rGood_c (v : Rv) (r : Rat) (b : Bool) (w : World) (hv : Rt w 0 v r) (sz : Sz r 75) (hb0 : Hid (b = true ↔ (lim r.num.natAbs).length ≤ 16 ∧ (lim r.den).length ≤ 16)) :
    Calls Tryz.prog 23 #[.agg #[.bool v.s, .slice v.A v.n v.c, .slice v.B v.m v.d]] w fun e w' => e = .returned (.bool b) ∧ Below w.heap.size w w' := by
  have hr := hv.rw sz
  have hN := Lib.hid (isN_rt hv)
  have hR : Hid (rn v.s (val (lim r.num.natAbs)) (val (lim r.den)) = r) := by
    show _ = _
    rw [val_lim, val_lim, hv.sign]; exact rn_self r
  have hnb : Hid (decide (16 < (lim r.num.natAbs).length ∨ 16 < (lim r.den).length) = !b) := by
    show _ = _
    cases b with
    | true => have := hb0.out.1 rfl; exact decide_eq_false (by omega)
    | false =>
      refine decide_eq_true ?_
      rcases Nat.lt_or_ge 16 (lim r.num.natAbs).length with h | h
      · exact .inl h
      · rcases Nat.lt_or_ge 16 (lim r.den).length with h2 | h2
        · exact .inr h2
        · exact Bool.noConfusion (hb0.out.2 ⟨h, h2⟩)
  go_enter Tryz.func23, Tryz.ntmps23
  go_wp2_with fail
  generalize hW : (w.alloc (.cells #[.bool v.s, .slice v.A v.n v.c, .slice v.B v.m v.d] 24)) = W
  obtain ⟨k_v, HB, hsW⟩ := open1 w v W hW
  clear hW
  obtain ⟨v_0, v_1, v_2, v_3, v_4, v_5⟩ := k_v.facts
  replace hv := hv.below HB
  replace hr := hr.below HB
  refine (rIs_c v _ _ r true _ (hr.more (by omega)) hv.num hv.den hR.out ⟨fun _ => hN.out, fun _ => rfl⟩).mono ?_
  rintro e w1 ⟨rfl, hb⟩
  replace HB := HB.trans (hb.mono HB.size)
  replace k_v := k_v.below hb
  replace hr := hr.below hb
  clear hb v_0 v_1 v_2 v_3 v_4 v_5 hv
  obtain ⟨v_0, v_1, v_2, v_3, v_4, v_5⟩ := k_v.facts
  go_wp2_with fail
  refine (rLarge_c v r (!b) _ (hr.more (by omega)) hnb).mono ?_
  rintro e w2 ⟨rfl, hb⟩
  replace HB := HB.trans (hb.mono HB.size)
  clear hb v_0 v_1 v_2 v_3 v_4 v_5 hr hb0 hnb
  cases b with
  | true =>
    go_wp2
    go_ret
    exact ⟨rfl, HB⟩
  | false =>
    go_wp2
    go_ret
    exact ⟨rfl, HB⟩
set_option maxHeartbeats 3200000 in
theorem rName_c (s : ByteArray) (w : World) : Calls Tryz.prog 24 #[.string s] w fun e w' => e = .returned (.bool (isName s)) ∧ w = w' := by
  have hiff := isName_iff (s := s)
  have si : ∀ b, (isName s = true ↔ b = true) → isName s = b := fun b h => Bool.eq_iff_iff.2 h
  by_cases h0 : s.size < 1
  · have i1 : (s.size : Int) < 1 := by omega
    have HF : Hid (isName s = false) := si false ⟨fun h => by have := (hiff.1 h).1; omega, fun h => Bool.noConfusion h⟩
    clear hiff si h0
    go_enter Tryz.func24, Tryz.ntmps24
    go_wp2
    go_ret
    exact ⟨by rw [HF.out]; rfl, rfl⟩
  · have i1 : ¬ (s.size : Int) < 1 := by omega
    by_cases h1 : s.size ≤ 24
    · have i2 : ¬ (24 : Int) < (s.size : Int) := by omega
      have i3 : (s.size : Int) ≤ 24 := by omega
      have i0 : (0 : Int) < (s.size : Int) := by omega
      have hl : 0 < s.size := by omega
      have hi := Lib.hid hiff
      have si2 := Lib.hid si
      clear hiff si h0
      cases hlw : isLw (bt s 0) with
      | false =>
        have HL : Hid (isLw s[0] = false) := by rw [bt_lt hl] at hlw; exact hlw
        have HF : Hid (isName s = false) := si2.out false ⟨fun h => by have := (hi.out.1 h).2.2.1; rw [hlw] at this; exact this, fun h => Bool.noConfusion h⟩
        clear hlw
        go_enter Tryz.func24, Tryz.ntmps24
        go_wp2_with fail
        refine (rletter_c s[0] _).mono ?_
        rintro e w' ⟨rfl, rfl⟩
        rw [HL.out]
        go_wp2
        go_ret
        exact ⟨by rw [HF.out]; rfl, rfl⟩
      | true =>
        have HL : Hid (isLw s[0] = true) := by rw [bt_lt hl] at hlw; exact hlw
        have HLW := Lib.hid hlw
        clear hlw
        go_enter Tryz.func24, Tryz.ntmps24
        go_wp2_with fail
        refine (rletter_c s[0] _).mono ?_
        rintro e w' ⟨rfl, rfl⟩
        rw [HL.out]
        go_wp2
        go_loop [3] (fun v => ∃ i : Nat, 1 ≤ i ∧ i ≤ s.size ∧ Hid (∀ j, j < i → isNb (bt s j) = true) ∧ v = .int .i64 i) (fun v => s.size - (intOf v).toNat)
        case atStart =>
          refine ⟨1, Nat.le_refl _, by omega, fun j h => ?_, rfl⟩
          have e : j = 0 := by omega
          rw [e]; exact lw_nb HLW.out
        case round =>
          obtain ⟨i, hi0, hi1, HJ, rfl⟩ := hrel
          have j0 : (0 : Int) ≤ (i : Int) := by omega
          by_cases hlt : i < s.size
          · have j1 : (i : Int) < (s.size : Int) := by omega
            have j2 : (i : Int) ≤ 24 := by omega
            cases hlw : isLw (bt s i) with
            | true =>
              have HL2 : Hid (isLw s[i] = true) := by rw [bt_lt hlt] at hlw; exact hlw
              have HJ2 : Hid (∀ j, j < i + 1 → isNb (bt s j) = true) := fun j hj => by
                by_cases h : j = i
                · subst h; exact lw_nb hlw
                · exact HJ.out j (by omega)
              clear hlw
              go_wp2_with fail
              refine (rletter_c s[i] _).mono ?_
              rintro e w' ⟨rfl, rfl⟩
              rw [HL2.out]
              go_wp2
              go_round
              case rel => exact ⟨i + 1, by omega, by omega, HJ2, by go_num⟩
              case measure => simp [intOf]; omega
            | false =>
              have HL2 : Hid (isLw s[i] = false) := by rw [bt_lt hlt] at hlw; exact hlw
              cases hdg : isDg (bt s i) with
              | true =>
                have HD2 : Hid (isDg s[i] = true) := by rw [bt_lt hlt] at hdg; exact hdg
                have HJ2 : Hid (∀ j, j < i + 1 → isNb (bt s j) = true) := fun j hj => by
                  by_cases h : j = i
                  · subst h; unfold isNb; rw [hdg, Bool.or_true]; rfl
                  · exact HJ.out j (by omega)
                clear hlw hdg
                go_wp2_with fail
                refine (rletter_c s[i] _).mono ?_
                rintro e w' ⟨rfl, rfl⟩
                rw [HL2.out]
                go_wp2_with fail
                refine (rdigit_c s[i] _).mono ?_
                rintro e w' ⟨rfl, rfl⟩
                rw [HD2.out]
                go_wp2
                go_round
                case rel => exact ⟨i + 1, by omega, by omega, HJ2, by go_num⟩
                case measure => simp [intOf]; omega
              | false =>
                have HD2 : Hid (isDg s[i] = false) := by rw [bt_lt hlt] at hdg; exact hdg
                by_cases h95 : bt s i = 95
                · have j95 : ((s[i].toNat : Int) == 95) = true := by rw [← bt_lt hlt, h95]; rfl
                  have k95 : ((s[i].toNat : Int) != 95) = false := by rw [← bt_lt hlt, h95]; rfl
                  have HJ2 : Hid (∀ j, j < i + 1 → isNb (bt s j) = true) := fun j hj => by
                    by_cases h : j = i
                    · subst h; unfold isNb; rw [h95, Bool.or_eq_true]; exact .inr rfl
                    · exact HJ.out j (by omega)
                  clear hlw hdg h95
                  go_wp2_with fail
                  refine (rletter_c s[i] _).mono ?_
                  rintro e w' ⟨rfl, rfl⟩
                  rw [HL2.out]
                  go_wp2_with fail
                  refine (rdigit_c s[i] _).mono ?_
                  rintro e w' ⟨rfl, rfl⟩
                  rw [HD2.out]
                  go_wp2
                  go_round
                  case rel => exact ⟨i + 1, by omega, by omega, HJ2, by go_num⟩
                  case measure => simp [intOf]; omega
                · have n95 : s[i].toNat ≠ 95 := by rw [← bt_lt hlt]; exact u8_ne (k := 95) (by omega) h95
                  have i95 : ¬ ((s[i].toNat : Int) = 95) := by omega
                  have j95 : ((s[i].toNat : Int) == 95) = false := beq_eq_false_iff_ne.2 i95
                  have k95 : ((s[i].toNat : Int) != 95) = true := by rw [bne_iff_ne]; exact i95
                  have HF : Hid (isName s = false) := si2.out false ⟨fun h => by
                    have := (hi.out.1 h).2.2.2 i hlt
                    unfold isNb at this
                    rw [hlw, hdg] at this
                    exact absurd (by simpa using this) h95, fun h => Bool.noConfusion h⟩
                  clear hlw hdg h95 n95
                  go_wp2_with fail
                  refine (rletter_c s[i] _).mono ?_
                  rintro e w' ⟨rfl, rfl⟩
                  rw [HL2.out]
                  go_wp2_with fail
                  refine (rdigit_c s[i] _).mono ?_
                  rintro e w' ⟨rfl, rfl⟩
                  rw [HD2.out]
                  go_wp2
                  go_ret
                  exact ⟨by rw [HF.out]; rfl, rfl⟩
          · have e : i = s.size := by omega
            have j1 : ¬ (i : Int) < (s.size : Int) := by omega
            have HF : Hid (isName s = true) := hi.out.2 ⟨hl, h1, HLW.out, fun j hj => HJ.out j (by omega)⟩
            go_wp2
            go_ret
            exact ⟨by rw [HF.out]; rfl, rfl⟩
    · have i2 : (24 : Int) < (s.size : Int) := by omega
      have HF : Hid (isName s = false) := si false ⟨fun h => by have := (hiff.1 h).2.1; omega, fun h => Bool.noConfusion h⟩
      clear hiff si h0 h1
      go_enter Tryz.func24, Tryz.ntmps24
      go_wp2
      go_ret
      exact ⟨by rw [HF.out]; rfl, rfl⟩
end Go.Proofs.YtdpbceipiappjaaGreatDoor
