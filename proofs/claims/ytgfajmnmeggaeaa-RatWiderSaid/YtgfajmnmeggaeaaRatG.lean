/-
  The program's rationals, seventh part: the whole number below, whether one is too large, whether it is normal.
-/
import Derived.Test.YtgfajmnmeggaeaaRatF
namespace Go.Proofs.Ytgfajmnmeggaeaa
set_option maxRecDepth 20000
open Go.RowKit

set_option maxHeartbeats 1600000 in
theorem Floor_plus (v : Rv) (a b : List Nat) (r : Rat) (w : World) (h1 : v.n ≤ v.c) (h2 : v.m ≤ v.d) (h3 : v.n ≤ 2000) (h4 : v.m ≤ 2000) (ha : Row w 0 v.A v.n a) (hb : Row w 0 v.B v.m b) (h0 : 0 < val b) (hs : v.s = false) (hr : rn false (val a / val b) 1 = r) :
    Calls Try.prog 15 #[.agg #[.bool v.s, .slice v.A v.n v.c, .slice v.B v.m v.d]] w fun e w' => ∃ v : Rv, e = .returned (.agg #[.bool v.s, .slice v.A v.n v.c, .slice v.B v.m v.d]) ∧ Rt w' w.heap.size v r ∧ Below w.heap.size w w' := by
  have HS := Lib.hid hs
  clear hs
  go_enter Try.func15, Try.ntmps15
  go_wp2_with fail
  generalize hW : ((w.alloc (.cells #[.bool v.s, .slice v.A v.n v.c, .slice v.B v.m v.d] 24)).alloc (.cells #[.bool false, .slice none 0 0, .slice none 0 0] 24)) = W
  obtain ⟨ka, kz, HW, hsW⟩ := open1z w v W hW
  clear hW
  refine (DivMod_pos v.A v.B v.n v.m v.c v.d (val a) (val b) a b _ (by omega) (by omega) h1 h2 (ha.below HW) (hb.below HW) rfl rfl h0).mono ?_
  rintro e w1 ⟨X, cx, Y, cy, rfl, hox, hoy, hb1⟩
  have hs1 := hb1.size
  replace ka := ka.below hb1
  replace kz := kz.below hb1
  replace HW := HW.trans (hb1.mono (by omega))
  have hrx := hox.row.lower (Nat.zero_le _)
  have hcx := hox.capLe
  have hry := hoy.row.lower (Nat.zero_le _)
  have hcy := hoy.capLe
  have hlq : (lim (val a / val b)).length ≤ 2000 := ((ha.bd h3).le (Nat.div_le_self _ _)).len
  have hlr : (lim (val a % val b)).length ≤ 2000 := ((ha.bd h3).le (Nat.mod_le _ _)).len
  clear hox hoy hb1 ha hb h0
  rw [HS.out] at ka
  obtain ⟨q0, q1, q2, g0, g1, g2⟩ := ka.facts
  go_wp2_with fail
  obtain ⟨q0, q1, q2, g0, g1, g2⟩ := ka.facts
  obtain ⟨z0, z1, z2, z3, z4, z5⟩ := kz.facts
  have hl7 : (lim 1).length ≤ 2 := lim_len_lt (by omega)
  go_region_held3 (fun w' => w'.cell? ⟨w.heap.size, 0, none⟩ = some (.bool false)) (go_keep)
      (first
      | (go_at_call 32
         refine (one_any _).mono ?_
         rintro e w7 ⟨B7, d7, rfl, ho7, hb7⟩
         obtain ⟨q0, q1, q2, g0, g1, g2⟩ := (ka.drew.below hb7).facts
         obtain ⟨z0, z1, z2, z3, z4, z5⟩ := (kz.drew.below hb7).facts)
      | (go_at_call 21
         refine (Of_nums false X B7 _ _ cx d7 (val a / val b) 1 _ _ r _ (val_lim _) (val_lim _) (by omega) (by omega) hcx ho7.capLe (hrx.drew.below hb7) (ho7.row.lower (Nat.zero_le _)) hr).mono ?_
         rintro e w8 ⟨z, rfl, hz, hb8⟩
         obtain ⟨q0, q1, q2, g0, g1, g2⟩ := ((ka.drew.below hb7).below hb8).facts
         obtain ⟨z0, z1, z2, z3, z4, z5⟩ := ((kz.drew.below hb7).below hb8).facts))
  have hs7 : w1.heap.size ≤ w7.heap.size := hb7.size
  have hs8 := hb8.size
  replace kz := (kz.drew.below hb7).below hb8
  have HB : Below w.heap.size w w8 := HW.trans ((below_drewN' w.heap.size w1 1).trans ((hb7.mono (by show _ ≤ w1.heap.size; omega)).trans (hb8.mono (by omega))))
  clear hb7 hb8 hrx ho7
  go_wp2
  refine ret3 (fn := Try.f15) Try.results15 rfl rfl kz ?_
  exact ⟨z, rfl, (hz.put (by omega) _ _ _).lower (by omega), HB.trans (put3_below (by omega) _ _ _)⟩

set_option maxHeartbeats 1600000 in
theorem Floor_even (v : Rv) (a b : List Nat) (r : Rat) (w : World) (h1 : v.n ≤ v.c) (h2 : v.m ≤ v.d) (h3 : v.n ≤ 2000) (h4 : v.m ≤ 2000) (ha : Row w 0 v.A v.n a) (hb : Row w 0 v.B v.m b) (h0 : 0 < val b) (hs : v.s = true) (hm : Hid (val a % val b = 0)) (hr : rn true (val a / val b) 1 = r) :
    Calls Try.prog 15 #[.agg #[.bool v.s, .slice v.A v.n v.c, .slice v.B v.m v.d]] w fun e w' => ∃ v : Rv, e = .returned (.agg #[.bool v.s, .slice v.A v.n v.c, .slice v.B v.m v.d]) ∧ Rt w' w.heap.size v r ∧ Below w.heap.size w w' := by
  have HS := Lib.hid hs
  clear hs
  go_enter Try.func15, Try.ntmps15
  go_wp2_with fail
  generalize hW : ((w.alloc (.cells #[.bool v.s, .slice v.A v.n v.c, .slice v.B v.m v.d] 24)).alloc (.cells #[.bool false, .slice none 0 0, .slice none 0 0] 24)) = W
  obtain ⟨ka, kz, HW, hsW⟩ := open1z w v W hW
  clear hW
  refine (DivMod_pos v.A v.B v.n v.m v.c v.d (val a) (val b) a b _ (by omega) (by omega) h1 h2 (ha.below HW) (hb.below HW) rfl rfl h0).mono ?_
  rintro e w1 ⟨X, cx, Y, cy, rfl, hox, hoy, hb1⟩
  have hs1 := hb1.size
  replace ka := ka.below hb1
  replace kz := kz.below hb1
  replace HW := HW.trans (hb1.mono (by omega))
  have hrx := hox.row.lower (Nat.zero_le _)
  have hcx := hox.capLe
  have hry := hoy.row.lower (Nat.zero_le _)
  have hcy := hoy.capLe
  have hlq : (lim (val a / val b)).length ≤ 2000 := ((ha.bd h3).le (Nat.div_le_self _ _)).len
  have hlr : (lim (val a % val b)).length ≤ 2000 := ((ha.bd h3).le (Nat.mod_le _ _)).len
  clear hox hoy hb1 ha hb h0
  rw [HS.out] at ka
  obtain ⟨q0, q1, q2, g0, g1, g2⟩ := ka.facts
  go_wp2_with fail
  refine (isNought_yes Y _ cy _ _ (by omega) hcy hry (by rw [val_lim]; exact hm.out)).mono ?_
  rintro e w2 ⟨rfl, rfl⟩
  go_wp2_with fail
  obtain ⟨q0, q1, q2, g0, g1, g2⟩ := ka.facts
  obtain ⟨z0, z1, z2, z3, z4, z5⟩ := kz.facts
  have hl7 : (lim 1).length ≤ 2 := lim_len_lt (by omega)
  go_region_held3 (fun w' => w'.cell? ⟨w.heap.size, 0, none⟩ = some (.bool true)) (go_keep)
      (first
      | (go_at_call 32
         refine (one_any _).mono ?_
         rintro e w7 ⟨B7, d7, rfl, ho7, hb7⟩
         obtain ⟨q0, q1, q2, g0, g1, g2⟩ := (ka.drew.below hb7).facts
         obtain ⟨z0, z1, z2, z3, z4, z5⟩ := (kz.drew.below hb7).facts)
      | (go_at_call 21
         refine (Of_nums true X B7 _ _ cx d7 (val a / val b) 1 _ _ r _ (val_lim _) (val_lim _) (by omega) (by omega) hcx ho7.capLe (hrx.drew.below hb7) (ho7.row.lower (Nat.zero_le _)) hr).mono ?_
         rintro e w8 ⟨z, rfl, hz, hb8⟩
         obtain ⟨q0, q1, q2, g0, g1, g2⟩ := ((ka.drew.below hb7).below hb8).facts
         obtain ⟨z0, z1, z2, z3, z4, z5⟩ := ((kz.drew.below hb7).below hb8).facts))
  have hs7 : w1.heap.size ≤ w7.heap.size := hb7.size
  have hs8 := hb8.size
  replace kz := (kz.drew.below hb7).below hb8
  have HB : Below w.heap.size w w8 := HW.trans ((below_drewN' w.heap.size w1 1).trans ((hb7.mono (by show _ ≤ w1.heap.size; omega)).trans (hb8.mono (by omega))))
  clear hb7 hb8 hrx ho7
  go_wp2
  refine ret3 (fn := Try.f15) Try.results15 rfl rfl kz ?_
  exact ⟨z, rfl, (hz.put (by omega) _ _ _).lower (by omega), HB.trans (put3_below (by omega) _ _ _)⟩

set_option maxHeartbeats 1600000 in
theorem Floor_more (v : Rv) (a b : List Nat) (r : Rat) (w : World) (h1 : v.n ≤ v.c) (h2 : v.m ≤ v.d) (h3 : v.n ≤ 2000) (h4 : v.m ≤ 2000) (ha : Row w 0 v.A v.n a) (hb : Row w 0 v.B v.m b) (h0 : 0 < val b) (hs : v.s = true) (hm : Hid (val a % val b ≠ 0)) (hr : rn true (val a / val b + 1) 1 = r) :
    Calls Try.prog 15 #[.agg #[.bool v.s, .slice v.A v.n v.c, .slice v.B v.m v.d]] w fun e w' => ∃ v : Rv, e = .returned (.agg #[.bool v.s, .slice v.A v.n v.c, .slice v.B v.m v.d]) ∧ Rt w' w.heap.size v r ∧ Below w.heap.size w w' := by
  have HS := Lib.hid hs
  clear hs
  go_enter Try.func15, Try.ntmps15
  go_wp2_with fail
  generalize hW : ((w.alloc (.cells #[.bool v.s, .slice v.A v.n v.c, .slice v.B v.m v.d] 24)).alloc (.cells #[.bool false, .slice none 0 0, .slice none 0 0] 24)) = W
  obtain ⟨ka, kz, HW, hsW⟩ := open1z w v W hW
  clear hW
  refine (DivMod_pos v.A v.B v.n v.m v.c v.d (val a) (val b) a b _ (by omega) (by omega) h1 h2 (ha.below HW) (hb.below HW) rfl rfl h0).mono ?_
  rintro e w1 ⟨X, cx, Y, cy, rfl, hox, hoy, hb1⟩
  have hs1 := hb1.size
  replace ka := ka.below hb1
  replace kz := kz.below hb1
  replace HW := HW.trans (hb1.mono (by omega))
  have hrx := hox.row.lower (Nat.zero_le _)
  have hcx := hox.capLe
  have hry := hoy.row.lower (Nat.zero_le _)
  have hcy := hoy.capLe
  have hlq : (lim (val a / val b)).length ≤ 2000 := ((ha.bd h3).le (Nat.div_le_self _ _)).len
  have hlr : (lim (val a % val b)).length ≤ 2000 := ((ha.bd h3).le (Nat.mod_le _ _)).len
  clear hox hoy hb1 ha hb h0
  rw [HS.out] at ka
  obtain ⟨q0, q1, q2, g0, g1, g2⟩ := ka.facts
  go_wp2_with fail
  refine (isNought_no Y _ cy _ _ (by omega) hcy hry (by rw [val_lim]; exact hm.out)).mono ?_
  rintro e w2 ⟨rfl, rfl⟩
  go_wp2_with fail
  refine (one_any _).mono ?_
  rintro e w3 ⟨B3, d3, rfl, ho3, hb3⟩
  have hs3 := hb3.size
  replace hrx := hrx.below hb3
  have hr3 := ho3.row.lower (Nat.zero_le _)
  have hc3 := ho3.capLe
  replace kz := kz.below hb3
  replace ka := ka.below hb3
  replace HW := HW.trans (hb3.mono (by omega))
  have hl3 : (lim 1).length ≤ 2 := lim_len_lt (by omega)
  clear ho3 hb3 hry
  go_wp2_with fail
  refine (Add_v (val a / val b) 1 X B3 _ _ cx d3 _ _ _ (val_lim _) (val_lim _) (by omega) (by omega) hcx hc3 hrx hr3).mono ?_
  rintro e w4 ⟨X4, cx4, rfl, ho4, hb4⟩
  have hs4 := hb4.size
  replace kz := kz.below hb4
  replace ka := ka.below hb4
  replace HW := HW.trans (hb4.mono (by omega))
  have hlq4 : (lim (val a / val b + 1)).length ≤ 2001 := by
    have h5 : Bd (val a / val b) 2000 := Bd.ofLen hlq
    have h7 : Bd 1 1 := by show (1 : Nat) < 4294967296 ^ 1; omega
    exact ((h5.add h7).more (by omega)).len
  replace hrx := ho4.row.lower (Nat.zero_le _)
  replace hcx := ho4.capLe
  clear ho4 hb4 hr3
  go_wp2_with fail
  obtain ⟨q0, q1, q2, g0, g1, g2⟩ := ka.facts
  obtain ⟨z0, z1, z2, z3, z4, z5⟩ := kz.facts
  have hl7 : (lim 1).length ≤ 2 := lim_len_lt (by omega)
  go_region_held3 (fun w' => w'.cell? ⟨w.heap.size, 0, none⟩ = some (.bool true)) (go_keep)
      (first
      | (go_at_call 32
         refine (one_any _).mono ?_
         rintro e w7 ⟨B7, d7, rfl, ho7, hb7⟩
         obtain ⟨q0, q1, q2, g0, g1, g2⟩ := (ka.drew.below hb7).facts
         obtain ⟨z0, z1, z2, z3, z4, z5⟩ := (kz.drew.below hb7).facts)
      | (go_at_call 21
         refine (Of_nums true X4 B7 _ _ cx4 d7 (val a / val b + 1) 1 _ _ r _ (val_lim _) (val_lim _) (by omega) (by omega) hcx ho7.capLe (hrx.drew.below hb7) (ho7.row.lower (Nat.zero_le _)) hr).mono ?_
         rintro e w8 ⟨z, rfl, hz, hb8⟩
         obtain ⟨q0, q1, q2, g0, g1, g2⟩ := ((ka.drew.below hb7).below hb8).facts
         obtain ⟨z0, z1, z2, z3, z4, z5⟩ := ((kz.drew.below hb7).below hb8).facts))
  have hs7 : w4.heap.size ≤ w7.heap.size := hb7.size
  have hs8 := hb8.size
  replace kz := (kz.drew.below hb7).below hb8
  have HB : Below w.heap.size w w8 := HW.trans ((below_drewN' w.heap.size w4 1).trans ((hb7.mono (by show _ ≤ w4.heap.size; omega)).trans (hb8.mono (by omega))))
  clear hb7 hb8 hrx ho7
  go_wp2
  refine ret3 (fn := Try.f15) Try.results15 rfl rfl kz ?_
  exact ⟨z, rfl, (hz.put (by omega) _ _ _).lower (by omega), HB.trans (put3_below (by omega) _ _ _)⟩

set_option maxHeartbeats 1600000 in
theorem Floor_zero_false (v : Rv) (a b : List Nat) (r : Rat) (w : World) (h1 : v.n ≤ v.c) (h2 : v.m ≤ v.d) (h3 : v.n ≤ 2000) (h4 : v.m ≤ 2000) (ha : Row w 0 v.A v.n a) (hb : Row w 0 v.B v.m b) (h0 : Hid (val b = 0)) (hs : v.s = false) (hr : rn false 0 1 = r) :
    Calls Try.prog 15 #[.agg #[.bool v.s, .slice v.A v.n v.c, .slice v.B v.m v.d]] w fun e w' => ∃ v : Rv, e = .returned (.agg #[.bool v.s, .slice v.A v.n v.c, .slice v.B v.m v.d]) ∧ Rt w' w.heap.size v r ∧ Below w.heap.size w w' := by
  have HS := Lib.hid hs
  clear hs
  go_enter Try.func15, Try.ntmps15
  go_wp2_with fail
  generalize hW : ((w.alloc (.cells #[.bool v.s, .slice v.A v.n v.c, .slice v.B v.m v.d] 24)).alloc (.cells #[.bool false, .slice none 0 0, .slice none 0 0] 24)) = W
  obtain ⟨ka, kz, HW, hsW⟩ := open1z w v W hW
  clear hW
  refine (DivMod_zero v.A v.B v.n v.m v.c v.d a b _ (by omega) (by omega) h1 h2 (ha.below HW) (hb.below HW) h0.out).mono ?_
  rintro e w1 ⟨rfl, rfl⟩
  have hrx : Row W 0 none 0 [] := Row.nil_ _ _ _
  clear ha hb h0
  rw [HS.out] at ka
  obtain ⟨q0, q1, q2, g0, g1, g2⟩ := ka.facts
  go_wp2_with fail
  obtain ⟨q0, q1, q2, g0, g1, g2⟩ := ka.facts
  obtain ⟨z0, z1, z2, z3, z4, z5⟩ := kz.facts
  have hl7 : (lim 1).length ≤ 2 := lim_len_lt (by omega)
  go_region_held3 (fun w' => w'.cell? ⟨w.heap.size, 0, none⟩ = some (.bool false)) (go_keep)
      (first
      | (go_at_call 32
         refine (one_any _).mono ?_
         rintro e w7 ⟨B7, d7, rfl, ho7, hb7⟩
         obtain ⟨q0, q1, q2, g0, g1, g2⟩ := (ka.drew.below hb7).facts
         obtain ⟨z0, z1, z2, z3, z4, z5⟩ := (kz.drew.below hb7).facts)
      | (go_at_call 21
         refine (Of_nums false none B7 _ _ 0 d7 (0) 1 _ _ r _ rfl (val_lim _) (by omega) (by omega) (Nat.le_refl _) ho7.capLe (hrx.drew.below hb7) (ho7.row.lower (Nat.zero_le _)) hr).mono ?_
         rintro e w8 ⟨z, rfl, hz, hb8⟩
         obtain ⟨q0, q1, q2, g0, g1, g2⟩ := ((ka.drew.below hb7).below hb8).facts
         obtain ⟨z0, z1, z2, z3, z4, z5⟩ := ((kz.drew.below hb7).below hb8).facts))
  have hs7 : W.heap.size ≤ w7.heap.size := hb7.size
  have hs8 := hb8.size
  replace kz := (kz.drew.below hb7).below hb8
  have HB : Below w.heap.size w w8 := HW.trans ((below_drewN' w.heap.size W 1).trans ((hb7.mono (by show _ ≤ W.heap.size; omega)).trans (hb8.mono (by omega))))
  clear hb7 hb8 hrx ho7
  go_wp2
  refine ret3 (fn := Try.f15) Try.results15 rfl rfl kz ?_
  exact ⟨z, rfl, (hz.put (by omega) _ _ _).lower (by omega), HB.trans (put3_below (by omega) _ _ _)⟩

set_option maxHeartbeats 1600000 in
theorem Floor_zero_true (v : Rv) (a b : List Nat) (r : Rat) (w : World) (h1 : v.n ≤ v.c) (h2 : v.m ≤ v.d) (h3 : v.n ≤ 2000) (h4 : v.m ≤ 2000) (ha : Row w 0 v.A v.n a) (hb : Row w 0 v.B v.m b) (h0 : Hid (val b = 0)) (hs : v.s = true) (hr : rn true 0 1 = r) :
    Calls Try.prog 15 #[.agg #[.bool v.s, .slice v.A v.n v.c, .slice v.B v.m v.d]] w fun e w' => ∃ v : Rv, e = .returned (.agg #[.bool v.s, .slice v.A v.n v.c, .slice v.B v.m v.d]) ∧ Rt w' w.heap.size v r ∧ Below w.heap.size w w' := by
  have HS := Lib.hid hs
  clear hs
  go_enter Try.func15, Try.ntmps15
  go_wp2_with fail
  generalize hW : ((w.alloc (.cells #[.bool v.s, .slice v.A v.n v.c, .slice v.B v.m v.d] 24)).alloc (.cells #[.bool false, .slice none 0 0, .slice none 0 0] 24)) = W
  obtain ⟨ka, kz, HW, hsW⟩ := open1z w v W hW
  clear hW
  refine (DivMod_zero v.A v.B v.n v.m v.c v.d a b _ (by omega) (by omega) h1 h2 (ha.below HW) (hb.below HW) h0.out).mono ?_
  rintro e w1 ⟨rfl, rfl⟩
  have hrx : Row W 0 none 0 [] := Row.nil_ _ _ _
  clear ha hb h0
  rw [HS.out] at ka
  obtain ⟨q0, q1, q2, g0, g1, g2⟩ := ka.facts
  go_wp2_with fail
  refine (isNought_yes none 0 0 [] _ (by omega) (by omega) (Row.nil_ _ _ _) rfl).mono ?_
  rintro e w2 ⟨rfl, rfl⟩
  go_wp2_with fail
  obtain ⟨q0, q1, q2, g0, g1, g2⟩ := ka.facts
  obtain ⟨z0, z1, z2, z3, z4, z5⟩ := kz.facts
  have hl7 : (lim 1).length ≤ 2 := lim_len_lt (by omega)
  go_region_held3 (fun w' => w'.cell? ⟨w.heap.size, 0, none⟩ = some (.bool true)) (go_keep)
      (first
      | (go_at_call 32
         refine (one_any _).mono ?_
         rintro e w7 ⟨B7, d7, rfl, ho7, hb7⟩
         obtain ⟨q0, q1, q2, g0, g1, g2⟩ := (ka.drew.below hb7).facts
         obtain ⟨z0, z1, z2, z3, z4, z5⟩ := (kz.drew.below hb7).facts)
      | (go_at_call 21
         refine (Of_nums true none B7 _ _ 0 d7 (0) 1 _ _ r _ rfl (val_lim _) (by omega) (by omega) (Nat.le_refl _) ho7.capLe (hrx.drew.below hb7) (ho7.row.lower (Nat.zero_le _)) hr).mono ?_
         rintro e w8 ⟨z, rfl, hz, hb8⟩
         obtain ⟨q0, q1, q2, g0, g1, g2⟩ := ((ka.drew.below hb7).below hb8).facts
         obtain ⟨z0, z1, z2, z3, z4, z5⟩ := ((kz.drew.below hb7).below hb8).facts))
  have hs7 : W.heap.size ≤ w7.heap.size := hb7.size
  have hs8 := hb8.size
  replace kz := (kz.drew.below hb7).below hb8
  have HB : Below w.heap.size w w8 := HW.trans ((below_drewN' w.heap.size W 1).trans ((hb7.mono (by show _ ≤ W.heap.size; omega)).trans (hb8.mono (by omega))))
  clear hb7 hb8 hrx ho7
  go_wp2
  refine ret3 (fn := Try.f15) Try.results15 rfl rfl kz ?_
  exact ⟨z, rfl, (hz.put (by omega) _ _ _).lower (by omega), HB.trans (put3_below (by omega) _ _ _)⟩


theorem Floor_c (v : Rv) (r : Rat) (w : World) (hv : Rw w v r 2000) :
    Calls Try.prog 15 #[.agg #[.bool v.s, .slice v.A v.n v.c, .slice v.B v.m v.d]] w fun e w' => ∃ v : Rv, e = .returned (.agg #[.bool v.s, .slice v.A v.n v.c, .slice v.B v.m v.d]) ∧ Rt w' w.heap.size v ((r.floor : Int) : Rat) ∧ Below w.heap.size w w' := by
  obtain ⟨h1, h2, h3, h4, a, b, ha, hb, hr⟩ := hv
  subst hr
  by_cases h0 : val b = 0
  · have e : ∀ s, rn s 0 1 = (((rn v.s (val a) (val b)).floor : Int) : Rat) := by
      intro s
      rw [h0, rn_zero (.inl rfl), rn_zero (.inr rfl)]
      exact (congrArg (fun z : Int => (z : Rat)) (show (0 : Rat).floor = 0 from rfl)).symm
    rcases Bool.eq_false_or_eq_true v.s with hs | hs
    rotate_left
    · exact Floor_zero_false v a b _ w h1 h2 h3 h4 ha hb h0 hs (by rw [← hs]; exact e _)
    · exact Floor_zero_true v a b _ w h1 h2 h3 h4 ha hb h0 hs (by rw [← hs]; exact e _)
  · have hf := rn_floor v.s (x := val a) h0
    rcases Bool.eq_false_or_eq_true v.s with hs | hs
    rotate_left
    · rw [hs, if_neg (by rintro ⟨h, _⟩; cases h), Nat.add_zero] at hf
      exact Floor_plus v a b _ w h1 h2 h3 h4 ha hb (Nat.pos_of_ne_zero h0) hs (by rw [hs]; exact hf.symm)
    · rw [hs] at hf
      by_cases hm : val a % val b = 0
      · rw [if_neg (by rintro ⟨_, h⟩; exact h hm), Nat.add_zero] at hf
        exact Floor_even v a b _ w h1 h2 h3 h4 ha hb (Nat.pos_of_ne_zero h0) hs hm (by rw [hs]; exact hf.symm)
      · rw [if_pos ⟨rfl, hm⟩] at hf
        exact Floor_more v a b _ w h1 h2 h3 h4 ha hb (Nat.pos_of_ne_zero h0) hs hm (by rw [hs]; exact hf.symm)
end Go.Proofs.Ytgfajmnmeggaeaa
