/-
  Two sums joined: the program's.
-/
import Derived.Test.YtdpbceipiappjaaGreatDoorSrC
namespace Go.Proofs.YtdpbceipiappjaaGreatDoor
set_option maxRecDepth 20000
open Go.RowKit

set_option maxHeartbeats 6400000 in
theorem joined3 (va vb : Cv) (L M : List (Int × Rat)) (k q : Rat) (w : World) (ha : Cw w va L k 1900) (hb : Cw w vb M q 1900) (hn : va.n ≤ 1000) (hm : vb.n ≤ 1000) :
    Calls Tryz.prog 47 #[.int .i64 3, .agg #[.int .i64 va.s, .slice va.A va.n va.c, .bool va.K.s, .slice va.K.A va.K.n va.K.c, .slice va.K.B va.K.m va.K.d], .agg #[.int .i64 vb.s, .slice vb.A vb.n vb.c, .bool vb.K.s, .slice vb.K.A vb.K.n vb.K.c, .slice vb.K.B vb.K.m vb.K.d]] w (KR w (.ok (addL L M) (k + q))) := by
  have HA := Lib.hid ha
  have HBB := Lib.hid hb
  clear ha hb
  obtain ⟨ka, kb, kz, HW, hsW⟩ := openK2z w va vb _ rfl
  obtain ⟨a0, a1, a2, a3, a4⟩ := ka.facts
  obtain ⟨b0, b1, b2, b3, b4⟩ := kb.facts
  have HAW := Lib.hid (HA.out.below HW)
  have HBW := Lib.hid (HBB.out.below HW)
  clear HA HBB
  go_enter Tryz.func47, Tryz.ntmps47
  go_wp2_with fail
  generalize ((w.alloc (.cells #[.int .i64 va.s, .slice va.A va.n va.c, .bool va.K.s, .slice va.K.A va.K.n va.K.c, .slice va.K.B va.K.m va.K.d] 39)).alloc (.cells #[.int .i64 vb.s, .slice vb.A vb.n vb.c, .bool vb.K.s, .slice vb.K.A vb.K.n vb.K.c, .slice vb.K.B vb.K.m vb.K.d] 39)).alloc (.cells #[.int .i64 0, .slice none 0 0, .bool false, .slice none 0 0, .slice none 0 0] 39) = W at *
  refine (AddK_c va vb L M k q _ HAW.out HBW.out hn hm).mono ?_
  rintro e w2 ⟨z, rfl, hzs, hzn, hz, hb⟩
  clear hzs hzn
  have kz2 := kz.below hb
  have hB2 := HW.trans (hb.mono (by omega))
  have HZ := Lib.hid (hz.lower (show w.heap.size + 3 ≤ W.heap.size by omega))
  clear a0 a1 a2 a3 a4 b0 b1 b2 b3 b4 hb ka kb kz HW hz
  obtain ⟨q0, q1, q2, q3, q4⟩ := kz2.facts
  obtain ⟨t0, t1, t2, t3, t4⟩ := kz2.thaw
  go_wp2
  refine ret5t (fn := Tryz.f47) Tryz.results47 rfl rfl rfl (kz2.put _ _ _ _ _) ?_
  exact ⟨hB2.trans (put5_below (by omega) _ _ _ _ _), z, rfl, (HZ.out.put (by omega) _ _ _ _ _).lower (by omega)⟩
set_option maxHeartbeats 6400000 in
theorem joined4 (va vb : Cv) (L M : List (Int × Rat)) (k q : Rat) (w : World) (ha : Cw w va L k 1900) (hb : Cw w vb M q 1900) (hn : va.n ≤ 1000) (hm : vb.n ≤ 1000) (hzm : SzL 1900 (scaleL ((-1 : Int) : Rat) M) ∧ Sz (q * ((-1 : Int) : Rat)) 1900) :
    Calls Tryz.prog 47 #[.int .i64 4, .agg #[.int .i64 va.s, .slice va.A va.n va.c, .bool va.K.s, .slice va.K.A va.K.n va.K.c, .slice va.K.B va.K.m va.K.d], .agg #[.int .i64 vb.s, .slice vb.A vb.n vb.c, .bool vb.K.s, .slice vb.K.A vb.K.n vb.K.c, .slice vb.K.B vb.K.m vb.K.d]] w (KR w (.ok (addL L (scaleL ((-1 : Int) : Rat) M)) (k + q * ((-1 : Int) : Rat)))) := by
  have HMN : Hid (M.length ≤ 1000) := by show _; rw [← hb.len]; exact hm
  have HZM := Lib.hid hzm
  clear hzm
  have HA := Lib.hid ha
  have HBB := Lib.hid hb
  clear ha hb
  obtain ⟨ka, kb, kz, HW, hsW⟩ := openK2z w va vb _ rfl
  obtain ⟨a0, a1, a2, a3, a4⟩ := ka.facts
  obtain ⟨b0, b1, b2, b3, b4⟩ := kb.facts
  have HAW := Lib.hid (HA.out.below HW)
  have HBW := Lib.hid (HBB.out.below HW)
  clear HA HBB
  go_enter Tryz.func47, Tryz.ntmps47
  go_wp2_with fail
  generalize ((w.alloc (.cells #[.int .i64 va.s, .slice va.A va.n va.c, .bool va.K.s, .slice va.K.A va.K.n va.K.c, .slice va.K.B va.K.m va.K.d] 39)).alloc (.cells #[.int .i64 vb.s, .slice vb.A vb.n vb.c, .bool vb.K.s, .slice vb.K.A vb.K.n vb.K.c, .slice vb.K.B vb.K.m vb.K.d] 39)).alloc (.cells #[.int .i64 0, .slice none 0 0, .bool false, .slice none 0 0, .slice none 0 0] 39) = W at *
  have hn1 : ¬ w.heap.size = w.heap.size + 1 + 1 := by omega
  have hn2 : ¬ w.heap.size + 1 + 1 = w.heap.size := by omega
  obtain ⟨z0, z1, z2, z3, z4⟩ := kz.facts
  obtain ⟨t0, t1, t2, t3, t4⟩ := kz.thaw
  have HS := Lib.hid hsW
  have HALL : Hid (∀ w', Below W.heap.size W w' → Cw w' va L k 1900 ∧ Cw w' vb M q 1900 ∧ C5 w' w.heap.size (.int .i64 va.s) (.slice va.A va.n va.c) (.bool va.K.s) (.slice va.K.A va.K.n va.K.c) (.slice va.K.B va.K.m va.K.d) ∧ C5 w' (w.heap.size + 1) (.int .i64 vb.s) (.slice vb.A vb.n vb.c) (.bool vb.K.s) (.slice vb.K.A vb.K.n vb.K.c) (.slice vb.K.B vb.K.m vb.K.d) ∧ C5 w' (w.heap.size + 1 + 1) (.int .i64 0) (.slice none 0 0) (.bool false) (.slice none 0 0) (.slice none 0 0) ∧ Below w.heap.size w w') := fun w' h => ⟨HAW.out.below h, HBW.out.below h, ka.below h, kb.below h, kz.below h, HW.trans (h.mono (by omega))⟩
  clear hsW ka kb kz HW HAW HBW
  go_region_held3 (fun w' => w'.cell? ⟨w.heap.size, 0, none⟩ = some (.int .i64 va.s) ∧ w'.cell? ⟨w.heap.size, 1, none⟩ = some (.slice va.A va.n va.c) ∧ w'.cell? ⟨w.heap.size, 2, none⟩ = some (.bool va.K.s) ∧ w'.cell? ⟨w.heap.size, 3, none⟩ = some (.slice va.K.A va.K.n va.K.c) ∧ w'.cell? ⟨w.heap.size, 4, none⟩ = some (.slice va.K.B va.K.m va.K.d) ∧ w'.cell? ⟨w.heap.size + 1, 0, none⟩ = some (.int .i64 vb.s) ∧ w'.cell? ⟨w.heap.size + 1, 1, none⟩ = some (.slice vb.A vb.n vb.c) ∧ w'.cell? ⟨w.heap.size + 1, 2, none⟩ = some (.bool vb.K.s) ∧ w'.cell? ⟨w.heap.size + 1, 3, none⟩ = some (.slice vb.K.A vb.K.n vb.K.c) ∧ w'.cell? ⟨w.heap.size + 1, 4, none⟩ = some (.slice vb.K.B vb.K.m vb.K.d)) (go_keep)
      (first
      | (go_at_call 46
         refine (minus_c vb M q _ (HALL.out _ (bel1 W)).2.1 hm).mono ?_
         rintro e w1 ⟨y, rfl, hy, hb1⟩
         have hbW := (bel1 W).trans hb1
         have HB1 := Lib.hid hbW
         obtain ⟨a0, a1, a2, a3, a4⟩ := (HALL.out _ hbW).2.2.1.facts
         obtain ⟨b0, b1, b2, b3, b4⟩ := (HALL.out _ hbW).2.2.2.1.facts
         obtain ⟨z0, z1, z2, z3, z4⟩ := (HALL.out _ hbW).2.2.2.2.1.facts
         obtain ⟨t0, t1, t2, t3, t4⟩ := (HALL.out _ hbW).2.2.2.2.1.thaw
         have HYN := Lib.hid hy.len
         have HY := Lib.hid (hy.cw HZM.out.1 HZM.out.2)
         clear hb1 hbW hy)
      | (go_at_call 67
         refine (AddK_c va y L (scaleL ((-1 : Int) : Rat) M) k (q * ((-1 : Int) : Rat)) _ (HALL.out _ HB1.out).1 HY.out hn (by rw [HYN.out]; have h5 := scaleL_len ((-1 : Int) : Rat) M; have h6 := HMN.out; omega)).mono ?_
         rintro e w2 ⟨z, rfl, hzs, hzn, hz, hb⟩
         have hbW := HB1.out.trans (hb.mono HB1.out.size)
         obtain ⟨a0, a1, a2, a3, a4⟩ := (HALL.out _ hbW).2.2.1.facts
         obtain ⟨b0, b1, b2, b3, b4⟩ := (HALL.out _ hbW).2.2.2.1.facts
         obtain ⟨z0, z1, z2, z3, z4⟩ := (HALL.out _ hbW).2.2.2.2.1.facts
         obtain ⟨t0, t1, t2, t3, t4⟩ := (HALL.out _ hbW).2.2.2.2.1.thaw
         have HK := Lib.hid (HALL.out _ hbW).2.2.2.2
         have HZ := Lib.hid (hz.lower (show w.heap.size + 3 ≤ w1.heap.size by have h7 := HB1.out.size; have h8 := HS.out; omega))
         clear hzs hzn hz hb hbW))
  go_wp2
  refine ret5t (fn := Tryz.f47) Tryz.results47 rfl rfl rfl (HK.out.1.put _ _ _ _ _) ?_
  exact ⟨HK.out.2.trans (put5_below (by omega) _ _ _ _ _), z, rfl, (HZ.out.put (by omega) _ _ _ _ _).lower (by omega)⟩
set_option maxHeartbeats 6400000 in
theorem joined5 (va vb : Cv) (L M : List (Int × Rat)) (k q : Rat) (w : World) (ha : Cw w va L k 1900) (hb : Cw w vb M q 1900) (hn : va.n ≤ 1000) (hm : vb.n ≤ 1000) :
    Calls Tryz.prog 47 #[.int .i64 5, .agg #[.int .i64 va.s, .slice va.A va.n va.c, .bool va.K.s, .slice va.K.A va.K.n va.K.c, .slice va.K.B va.K.m va.K.d], .agg #[.int .i64 vb.s, .slice vb.A vb.n vb.c, .bool vb.K.s, .slice vb.K.A vb.K.n vb.K.c, .slice vb.K.B vb.K.m vb.K.d]] w (KR w (mulS L k M q)) := by
  have HA := Lib.hid ha
  have HBB := Lib.hid hb
  clear ha hb
  obtain ⟨ka, kb, kz, HW, hsW⟩ := openK2z w va vb _ rfl
  obtain ⟨a0, a1, a2, a3, a4⟩ := ka.facts
  obtain ⟨b0, b1, b2, b3, b4⟩ := kb.facts
  have HAW := Lib.hid (HA.out.below HW)
  have HBW := Lib.hid (HBB.out.below HW)
  clear HA HBB
  go_enter Tryz.func47, Tryz.ntmps47
  go_wp2_with fail
  generalize ((w.alloc (.cells #[.int .i64 va.s, .slice va.A va.n va.c, .bool va.K.s, .slice va.K.A va.K.n va.K.c, .slice va.K.B va.K.m va.K.d] 39)).alloc (.cells #[.int .i64 vb.s, .slice vb.A vb.n vb.c, .bool vb.K.s, .slice vb.K.A vb.K.n vb.K.c, .slice vb.K.B vb.K.m vb.K.d] 39)).alloc (.cells #[.int .i64 0, .slice none 0 0, .bool false, .slice none 0 0, .slice none 0 0] 39) = W at *
  have HS := Lib.hid hsW
  refine (product_c va vb L M k q _ HAW.out HBW.out hn hm).mono ?_
  rintro e w2 hK
  obtain ⟨hb, hK⟩ := hK
  obtain ⟨R, hR⟩ : ∃ R, R = mulS L k M q := ⟨_, rfl⟩
  rw [← hR] at hK
  have HR := Lib.hid hR
  clear hR
  have kz2 := kz.below hb
  have hB2 := HW.trans (hb.mono (by omega))
  cases R with
  | ok L2 k2 =>
    obtain ⟨z, rfl, hz⟩ := hK
    have HZ := Lib.hid (hz.lower (show w.heap.size + 3 ≤ W.heap.size by omega))
    clear a0 a1 a2 a3 a4 b0 b1 b2 b3 b4 hb ka kb kz HW hz hsW
    obtain ⟨q0, q1, q2, q3, q4⟩ := kz2.facts
    obtain ⟨t0, t1, t2, t3, t4⟩ := kz2.thaw
    go_wp2
    refine ret5t (fn := Tryz.f47) Tryz.results47 rfl rfl rfl (kz2.put _ _ _ _ _) ?_
    refine ⟨hB2.trans (put5_below (by omega) _ _ _ _ _), ?_⟩
    rw [← HR.out]
    exact ⟨z, rfl, (HZ.out.put (by omega) _ _ _ _ _).lower (by omega)⟩
  | err c =>
    obtain ⟨z, rfl⟩ := hK
    clear a0 a1 a2 a3 a4 b0 b1 b2 b3 b4 hb ka kb kz HW hsW
    obtain ⟨q0, q1, q2, q3, q4⟩ := kz2.facts
    obtain ⟨t0, t1, t2, t3, t4⟩ := kz2.thaw
    go_wp2
    refine ret5t (fn := Tryz.f47) Tryz.results47 rfl rfl rfl (kz2.put _ _ _ _ _) ?_
    refine ⟨hB2.trans (put5_below (by omega) _ _ _ _ _), ?_⟩
    rw [← HR.out]
    exact ⟨z, rfl⟩
set_option maxHeartbeats 6400000 in
theorem joined6 (va vb : Cv) (L M : List (Int × Rat)) (k q : Rat) (w : World) (ha : Cw w va L k 1900) (hb : Cw w vb M q 1900) (hn : va.n ≤ 1000) (_hm : vb.n ≤ 1000) (zq : q ≠ 0 → Sz (((1 : Int) : Rat) / q) 1900) :
    Calls Tryz.prog 47 #[.int .i64 6, .agg #[.int .i64 va.s, .slice va.A va.n va.c, .bool va.K.s, .slice va.K.A va.K.n va.K.c, .slice va.K.B va.K.m va.K.d], .agg #[.int .i64 vb.s, .slice vb.A vb.n vb.c, .bool vb.K.s, .slice vb.K.A vb.K.n vb.K.c, .slice vb.K.B vb.K.m vb.K.d]] w (KR w (divS L k M q)) := by
  have HZQ := Lib.hid zq
  clear zq
  have HA := Lib.hid ha
  have HBB := Lib.hid hb
  clear ha hb
  obtain ⟨ka, kb, kz, HW, hsW⟩ := openK2z w va vb _ rfl
  obtain ⟨a0, a1, a2, a3, a4⟩ := ka.facts
  obtain ⟨b0, b1, b2, b3, b4⟩ := kb.facts
  have HAW := Lib.hid (HA.out.below HW)
  have HBW := Lib.hid (HBB.out.below HW)
  clear HA HBB
  go_enter Tryz.func47, Tryz.ntmps47
  go_wp2_with fail
  generalize ((w.alloc (.cells #[.int .i64 va.s, .slice va.A va.n va.c, .bool va.K.s, .slice va.K.A va.K.n va.K.c, .slice va.K.B va.K.m va.K.d] 39)).alloc (.cells #[.int .i64 vb.s, .slice vb.A vb.n vb.c, .bool vb.K.s, .slice vb.K.A vb.K.n vb.K.c, .slice vb.K.B vb.K.m vb.K.d] 39)).alloc (.cells #[.int .i64 0, .slice none 0 0, .bool false, .slice none 0 0, .slice none 0 0] 39) = W at *
  have HS := Lib.hid hsW
  refine (quotient_c va vb L M k q _ HAW.out HBW.out hn HZQ.out).mono ?_
  rintro e w2 hK
  obtain ⟨hb, hK⟩ := hK
  obtain ⟨R, hR⟩ : ∃ R, R = divS L k M q := ⟨_, rfl⟩
  rw [← hR] at hK
  have HR := Lib.hid hR
  clear hR
  have kz2 := kz.below hb
  have hB2 := HW.trans (hb.mono (by omega))
  cases R with
  | ok L2 k2 =>
    obtain ⟨z, rfl, hz⟩ := hK
    have HZ := Lib.hid (hz.lower (show w.heap.size + 3 ≤ W.heap.size by omega))
    clear a0 a1 a2 a3 a4 b0 b1 b2 b3 b4 hb ka kb kz HW hz hsW
    obtain ⟨q0, q1, q2, q3, q4⟩ := kz2.facts
    obtain ⟨t0, t1, t2, t3, t4⟩ := kz2.thaw
    go_wp2
    refine ret5t (fn := Tryz.f47) Tryz.results47 rfl rfl rfl (kz2.put _ _ _ _ _) ?_
    refine ⟨hB2.trans (put5_below (by omega) _ _ _ _ _), ?_⟩
    rw [← HR.out]
    exact ⟨z, rfl, (HZ.out.put (by omega) _ _ _ _ _).lower (by omega)⟩
  | err c =>
    obtain ⟨z, rfl⟩ := hK
    clear a0 a1 a2 a3 a4 b0 b1 b2 b3 b4 hb ka kb kz HW hsW
    obtain ⟨q0, q1, q2, q3, q4⟩ := kz2.facts
    obtain ⟨t0, t1, t2, t3, t4⟩ := kz2.thaw
    go_wp2
    refine ret5t (fn := Tryz.f47) Tryz.results47 rfl rfl rfl (kz2.put _ _ _ _ _) ?_
    refine ⟨hB2.trans (put5_below (by omega) _ _ _ _ _), ?_⟩
    rw [← HR.out]
    exact ⟨z, rfl⟩
theorem joined_c (c n m : Nat) (va vb : Cv) (L M : List (Int × Rat)) (k q : Rat) (w : World) (hc : c = 3 ∨ c = 4 ∨ c = 5 ∨ c = 6) (ha : Cw w va L k 1900) (hb : Cw w vb M q 1900) (sa : SzS n L k) (sb : SzS m M q) (hnm : 1 + n + m ≤ 111) :
    Calls Tryz.prog 47 #[.int .i64 (c : Int), .agg #[.int .i64 va.s, .slice va.A va.n va.c, .bool va.K.s, .slice va.K.A va.K.n va.K.c, .slice va.K.B va.K.m va.K.d], .agg #[.int .i64 vb.s, .slice vb.A vb.n vb.c, .bool vb.K.s, .slice vb.K.A vb.K.n vb.K.c, .slice vb.K.B vb.K.m vb.K.d]] w (KR w (joinS c L k M q)) := by
  have hn : va.n ≤ 1000 := by rw [ha.len]; have := sa.len; omega
  have hm : vb.n ≤ 1000 := by rw [hb.len]; have := sb.len; omega
  rcases hc with rfl | rfl | rfl | rfl
  · exact joined3 va vb L M k q w ha hb hn hm
  · exact joined4 va vb L M k q w ha hb hn hm ⟨(SzL.scale sz_m1 _ sb.row).more (by omega), (sb.num.mul sz_m1).more (by omega)⟩
  · exact joined5 va vb L M k q w ha hb hn hm
  · exact joined6 va vb L M k q w ha hb hn hm fun h => (sz_p1.div sb.num h).more (by omega)
end Go.Proofs.YtdpbceipiappjaaGreatDoor
