/-
  Products, quotients and joins of sums: the program's.
-/
import Derived.Test.YtdpbceipiappjaaGreatDoorSrA
namespace Go.Proofs.YtdpbceipiappjaaGreatDoor
set_option maxRecDepth 20000
open Go.RowKit

theorem KR.ok {w w' : World} {z : Cv} {L : List (Int × Rat)} {k : Rat} {e : Ending} (he : e = .returned (.tuple #[.agg #[.int .i64 z.s, .slice z.A z.n z.c, .bool z.K.s, .slice z.K.A z.K.n z.K.c, .slice z.K.B z.K.m z.K.d], .int .i64 0])) (hc : Ct w' w.heap.size z L k) (hb : Below w.heap.size w w') : KR w (.ok L k) e w' := ⟨hb, z, he, hc⟩
set_option maxHeartbeats 6400000 in
theorem product_c (va vb : Cv) (L M : List (Int × Rat)) (k q : Rat) (w : World) (ha : Cw w va L k 1900) (hb : Cw w vb M q 1900) (hn : va.n ≤ 1000) (hm : vb.n ≤ 1000) :
    Calls Tryz.prog 68 #[.agg #[.int .i64 va.s, .slice va.A va.n va.c, .bool va.K.s, .slice va.K.A va.K.n va.K.c, .slice va.K.B va.K.m va.K.d], .agg #[.int .i64 vb.s, .slice vb.A vb.n vb.c, .bool vb.K.s, .slice vb.K.A vb.K.n vb.K.c, .slice vb.K.B vb.K.m vb.K.d]] w (KR w (mulS L k M q)) := by
  have la := ha.len
  have lb := hb.len
  have HA := Lib.hid ha
  have HBB := Lib.hid hb
  clear ha hb
  obtain ⟨ka, kb, kz, HW, hsW⟩ := openK2z w va vb _ rfl
  obtain ⟨a0, a1, a2, a3, a4⟩ := ka.facts
  obtain ⟨b0, b1, b2, b3, b4⟩ := kb.facts
  obtain ⟨z0, z1, z2, z3, z4⟩ := kz.facts
  obtain ⟨t0, t1, t2, t3, t4⟩ := kz.thaw
  have HAW := Lib.hid (HA.out.below HW)
  have HBW := Lib.hid (HBB.out.below HW)
  rcases L with _ | ⟨x, L⟩
  · have i0 : (va.n : Int) = 0 := by simp at la; omega
    have hm' := Lib.hid hm
    clear la lb hn hm HA HBB
    go_enter Tryz.func68, Tryz.ntmps68
    go_wp2_with fail
    generalize ((w.alloc (.cells #[.int .i64 va.s, .slice va.A va.n va.c, .bool va.K.s, .slice va.K.A va.K.n va.K.c, .slice va.K.B va.K.m va.K.d] 39)).alloc (.cells #[.int .i64 vb.s, .slice vb.A vb.n vb.c, .bool vb.K.s, .slice vb.K.A vb.K.n vb.K.c, .slice vb.K.B vb.K.m vb.K.d] 39)).alloc (.cells #[.int .i64 0, .slice none 0 0, .bool false, .slice none 0 0, .slice none 0 0] 39) = W at *
    refine (ScaleK_c vb va.K M q k _ HBW.out HAW.out.num hm'.out).mono ?_
    rintro e w2 ⟨z, rfl, hzs, hzn, hz, hb⟩
    have kz2 := kz.below hb
    have hB2 := HW.trans (hb.mono (by omega))
    have HZ := Lib.hid (hz.lower (show w.heap.size + 3 ≤ W.heap.size by omega))
    clear a0 a1 a2 a3 a4 b0 b1 b2 b3 b4 z0 z1 z2 z3 z4 t0 t1 t2 t3 t4 hb ka kb kz HW hz hzs hzn
    obtain ⟨q0, q1, q2, q3, q4⟩ := kz2.facts
    obtain ⟨t0, t1, t2, t3, t4⟩ := kz2.thaw
    go_wp2
    refine ret5t (fn := Tryz.f68) Tryz.results68 rfl rfl rfl (kz2.put _ _ _ _ _) ?_
    exact ⟨hB2.trans (put5_below (by omega) _ _ _ _ _), z, rfl, (HZ.out.put (by omega) _ _ _ _ _).lower (by omega)⟩
  · have i0 : ¬ (va.n : Int) = 0 := by simp at la; omega
    rcases M with _ | ⟨y, M⟩
    · have i1 : (vb.n : Int) = 0 := by simp at lb; omega
      have hn' := Lib.hid hn
      clear la lb hn hm HA HBB
      go_enter Tryz.func68, Tryz.ntmps68
      go_wp2_with fail
      generalize ((w.alloc (.cells #[.int .i64 va.s, .slice va.A va.n va.c, .bool va.K.s, .slice va.K.A va.K.n va.K.c, .slice va.K.B va.K.m va.K.d] 39)).alloc (.cells #[.int .i64 vb.s, .slice vb.A vb.n vb.c, .bool vb.K.s, .slice vb.K.A vb.K.n vb.K.c, .slice vb.K.B vb.K.m vb.K.d] 39)).alloc (.cells #[.int .i64 0, .slice none 0 0, .bool false, .slice none 0 0, .slice none 0 0] 39) = W at *
      refine (ScaleK_c va vb.K (x :: L) k q _ HAW.out HBW.out.num hn'.out).mono ?_
      rintro e w2 ⟨z, rfl, hzs, hzn, hz, hb⟩
      have kz2 := kz.below hb
      have hB2 := HW.trans (hb.mono (by omega))
      have HZ := Lib.hid (hz.lower (show w.heap.size + 3 ≤ W.heap.size by omega))
      clear a0 a1 a2 a3 a4 b0 b1 b2 b3 b4 z0 z1 z2 z3 z4 t0 t1 t2 t3 t4 hb ka kb kz HW hz hzs hzn
      obtain ⟨q0, q1, q2, q3, q4⟩ := kz2.facts
      obtain ⟨t0, t1, t2, t3, t4⟩ := kz2.thaw
      go_wp2
      refine ret5t (fn := Tryz.f68) Tryz.results68 rfl rfl rfl (kz2.put _ _ _ _ _) ?_
      exact ⟨hB2.trans (put5_below (by omega) _ _ _ _ _), z, rfl, (HZ.out.put (by omega) _ _ _ _ _).lower (by omega)⟩
    · have i1 : ¬ (vb.n : Int) = 0 := by simp at lb; omega
      clear la lb hn hm HA HBB
      go_enter Tryz.func68, Tryz.ntmps68
      go_wp2
      generalize ((w.alloc (.cells #[.int .i64 va.s, .slice va.A va.n va.c, .bool va.K.s, .slice va.K.A va.K.n va.K.c, .slice va.K.B va.K.m va.K.d] 39)).alloc (.cells #[.int .i64 vb.s, .slice vb.A vb.n vb.c, .bool vb.K.s, .slice vb.K.A vb.K.n vb.K.c, .slice vb.K.B vb.K.m vb.K.d] 39)).alloc (.cells #[.int .i64 0, .slice none 0 0, .bool false, .slice none 0 0, .slice none 0 0] 39) = W at *
      refine ret5t (fn := Tryz.f68) Tryz.results68 rfl rfl rfl kz ?_
      exact ⟨HW, Kz, rfl⟩
end Go.Proofs.YtdpbceipiappjaaGreatDoor
