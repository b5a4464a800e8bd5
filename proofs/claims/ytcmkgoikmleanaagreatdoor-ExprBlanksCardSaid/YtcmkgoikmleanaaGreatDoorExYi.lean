/-
  The document's Parse.
-/
import Derived.Test.YtcmkgoikmleanaaGreatDoorExYh
namespace Go.Proofs.YtcmkgoikmleanaaGreatDoor
set_option maxRecDepth 20000
open Go.RowKit

theorem ret6tc {fn : Func} {t s1 s2 : Tmp} {R : Ending → World → Prop} {a : Act} {w : World} {b : Nat} {x0 x1 x2 x3 x4 x5 u1 u2 : Value} (hres : fn.results = #[.cell t 27, .tmp s1, .tmp s2]) (ht : a.tmps.getD t undef = .pointer (some ⟨b, 0, none⟩)) (hu1 : a.tmps.getD s1 undef = u1) (hu2 : a.tmps.getD s2 undef = u2) (hd : a.defers = [])
    (hk : C6 w b x0 x1 x2 x3 x4 x5) (hR : R (.returned (.tuple #[.agg #[x0, x1, x2, x3, x4, x5], u1, u2])) w) : bodyPost Tryz.prog fn R .ret a w := by
  obtain ⟨q0, q1, q2, q3, q4, q5⟩ := hk.facts
  have ht' : (a.tmps[t]?.getD undef) = .pointer (some ⟨b, 0, none⟩) := by simpa using ht
  have h1' : (a.tmps[s1]?.getD undef) = u1 := by simpa using hu1
  have h2' : (a.tmps[s2]?.getD undef) = u2 := by simpa using hu2
  refine bodyPost_ret (v := .tuple #[.agg #[x0, x1, x2, x3, x4, x5], u1, u2]) ?_ hd hR
  simp [results, hres, go_sem, ht', h1', h2', q0, q1, q2, q3, q4, q5]
theorem ret6t {fn : Func} {t s1 s2 : Tmp} {R : Ending → World → Prop} {a : Act} {w : World} {b : Nat} {y0 y1 y2 y3 y4 y5 x0 x1 x2 x3 x4 x5 u1 u2 : Value} (hres : fn.results = #[.cell t 27, .tmp s1, .tmp s2]) (ht : a.tmps.getD t undef = .pointer (some ⟨b, 0, none⟩)) (hu1 : a.tmps.getD s1 undef = u1) (hu2 : a.tmps.getD s2 undef = u2) (hd : a.defers = [])
    (hk : C6 w b y0 y1 y2 y3 y4 y5) (hR : R (.returned (.tuple #[.agg #[x0, x1, x2, x3, x4, x5], u1, u2])) (put6 w b x0 x1 x2 x3 x4 x5)) : bodyPost Tryz.prog fn R .ret a (put6 w b x0 x1 x2 x3 x4 x5) := ret6tc hres ht hu1 hu2 hd (hk.put x0 x1 x2 x3 x4 x5) hR
theorem doc_fin {S : ByteArray} {t u : Ex} {p n : Nat} {lg : Bool} (hG : Good S 0 0 (.ok t u p n lg)) : (lg = false ∧ u.may 32 256 → t = u ∧ t.may 32 256) ∧ (t.may 32 256 → lg = false ∧ u.may 32 256) := by
  constructor
  · rintro ⟨h1, h2⟩
    have h3 := hG.count h1
    have h4 := h2.2.2
    have e := hG.same (by omega) h1
    exact ⟨e, by rw [e]; exact h2⟩
  · intro h
    have hn : n ≤ 256 := by
      rcases Nat.lt_or_ge 256 n with h1 | h1
      · have e := hG.over h1
        rw [e] at h
        exact absurd h.1 (fun h => h)
      · exact h1
    have hl : lg = false := by
      cases lg with
      | false => rfl
      | true => exact absurd h.1 (fine_bad (hG.long hn rfl))
    refine ⟨hl, ?_⟩
    rw [← hG.same hn hl]; exact h
set_option maxHeartbeats 8000000 in
theorem rParseE_c (S : ByteArray) (w : World) (hs : S.size ≤ 100000) : Calls Tryz.prog 13 #[.string S] w (FP w (fin S)) := by
  have HF : Hid (fin S = fin1 (((lev tv S 31).2 0 0).then fun t u p n lg => if p < S.size then .err p 2 else .ok t u p n lg)) := rfl
  have HGp := (lev_good tv S 31).2 0 0 (Nat.zero_le _)
  have HW := (wf_lev S 31).2 0 0
  have HSD := (sd_lev S 31).2 0 0
  have HK : ∀ t u p n lg, (lev tv S 31).2 0 0 = .ok t u p n lg → skp S p = p := fun _ _ _ _ _ h => sum_skp 31 (Nat.zero_le _) h
  generalize fin S = RES at *
  have k_r := C6.new w (.int .i64 0) (.bool false) (.slice none 0 0) (.slice none 0 0) (.string ⟨#[]⟩) (.slice none 0 0)
  have hz : (w.alloc (.cells #[.int .i64 0, .bool false, .slice none 0 0, .slice none 0 0, .string ⟨#[]⟩, .slice none 0 0] 27)).heap.size = w.heap.size + 1 := by simp
  have hr : RRd w (w.heap.size + 1) S ((w.alloc (.cells #[.int .i64 0, .bool false, .slice none 0 0, .slice none 0 0, .string ⟨#[]⟩, .slice none 0 0] 27)).alloc (.cells #[.string S, .int .i64 0, .int .i64 0, .int .i64 0, .int .i64 0, .bool false] 54)) 0 0 0 0 false :=
    ⟨by omega, ((Below.refl _ _).alloc (Nat.le_refl _) _).alloc (by omega) _, by rw [← hz]; exact heap_alloc_new _ _⟩
  replace k_r := k_r.alloc (.cells #[.string S, .int .i64 0, .int .i64 0, .int .i64 0, .int .i64 0, .bool false] 54)
  have hb := ((But.refl (w.heap.size + 1) w).alloc (.cells #[.int .i64 0, .bool false, .slice none 0 0, .slice none 0 0, .string ⟨#[]⟩, .slice none 0 0] 27)).alloc (.cells #[.string S, .int .i64 0, .int .i64 0, .int .i64 0, .int .i64 0, .bool false] 54)
  have hz2 : ((w.alloc (.cells #[.int .i64 0, .bool false, .slice none 0 0, .slice none 0 0, .string ⟨#[]⟩, .slice none 0 0] 27)).alloc (.cells #[.string S, .int .i64 0, .int .i64 0, .int .i64 0, .int .i64 0, .bool false] 54)).heap.size = w.heap.size + 2 := by simp
  go_enter Tryz.func13, Tryz.ntmps13
  go_wp2_with fail
  refine ((rlev_c hs 31 (Nat.le_refl _)).2 _ 0 0 false hr (Nat.zero_le _)).mono ?_
  generalize (w.alloc (.cells #[.int .i64 0, .bool false, .slice none 0 0, .slice none 0 0, .string ⟨#[]⟩, .slice none 0 0] 27)).alloc (.cells #[.string S, .int .i64 0, .int .i64 0, .int .i64 0, .int .i64 0, .bool false] 54) = wa at *
  generalize (lev tv S 31).2 0 0 = r0 at *
  cases r0 with
  | err a c =>
    rintro e w1 ⟨v, p1, d1, lg1, rfl, hr1, hp1, _, _, hb1⟩
    have hres : Hid (RES = .err a c) := HF
    have hc := HGp.2
    have i0 : ¬ ((c : Int) = 0) := by omega
    have j0 : ((c : Int) == 0) = false := beq_eq_false_iff_ne.2 i0
    have n0 : ((c : Int) != 0) = true := by rw [bne_iff_ne]; exact i0
    replace hb := hb.trans hb1
    replace k_r := k_r.but hb1 (by omega)
    have hz1 := hb1.size
    clear hb1 hr HGp HF HK HW HSD hc
    replace k_r := k_r.alloc (.cells #[.int .i64 v.k, .bool v.r.s, .slice v.r.A v.r.n v.r.c, .slice v.r.B v.r.m v.r.d, .string v.s, .slice v.K v.n v.c] 27)
    replace hr1 := hr1.alloc (.cells #[.int .i64 v.k, .bool v.r.s, .slice v.r.A v.r.n v.r.c, .slice v.r.B v.r.m v.r.d, .string v.s, .slice v.K v.n v.c] 27)
    replace hb := hb.alloc (.cells #[.int .i64 v.k, .bool v.r.s, .slice v.r.A v.r.n v.r.c, .slice v.r.B v.r.m v.r.d, .string v.s, .slice v.K v.n v.c] 27)
    go_wp2_with fail
    refine (rblanks_c hr1 hp1 hs).mono ?_
    rintro e w2 ⟨rfl, hr2, hb2⟩
    replace hb := hb.trans hb2
    replace k_r := k_r.but hb2 (by omega)
    clear hb2 hr1
    obtain ⟨h0, h1, h2, h3, h4, h5⟩ := hr2.facts
    obtain ⟨s0, s1, s2, s3, s4, s5⟩ := k_r.facts
    obtain ⟨r0, r1, r2, r3, r4, r5⟩ := k_r.thaw
    go_wp2
    go_region
    go_wp2
    refine ret6tc (fn := Tryz.f13) Tryz.results13 rfl rfl rfl rfl ((k_r.put (.int .i64 0) (.bool false) (.slice none 0 0) (.slice none 0 0) (.string ⟨#[]⟩) (.slice none 0 0)).drew) ?_
    rw [hres.out]
    exact ⟨rfl, ((hb.put (Nat.le_refl _) _ _ _ _ _ _).drew).new (by omega)⟩
  | ok t u p n lg =>
    rintro e w1 ⟨v, rfl, ht, hr1, hb1⟩
    have hskp := HK t u p n lg rfl
    have hfin := doc_fin HGp
    have hp1 := HGp.le
    have hwf := HW.2
    have hsd : u.szd := HSD
    have hcount := HGp.count
    have hstep := HGp.step
    replace hb := hb.trans hb1
    replace k_r := k_r.but hb1 (by omega)
    have hz1 := hb1.size
    have HF2 : Hid (RES = fin1 (if p < S.size then .err p 2 else .ok t u p n lg)) := HF
    clear HF HK HW HSD hr HGp
    replace ht := ht.lt.wide (Q := fun b => w.heap.size + 2 ≤ b ∧ b ≠ w1.heap.size) (fun b ⟨h1, h2⟩ => ⟨by omega, by omega⟩)
    have k_e := C6.new w1 (.int .i64 v.k) (.bool v.r.s) (.slice v.r.A v.r.n v.r.c) (.slice v.r.B v.r.m v.r.d) (.string v.s) (.slice v.K v.n v.c)
    replace k_r := k_r.alloc (.cells #[.int .i64 v.k, .bool v.r.s, .slice v.r.A v.r.n v.r.c, .slice v.r.B v.r.m v.r.d, .string v.s, .slice v.K v.n v.c] 27)
    replace hr1 := hr1.alloc (.cells #[.int .i64 v.k, .bool v.r.s, .slice v.r.A v.r.n v.r.c, .slice v.r.B v.r.m v.r.d, .string v.s, .slice v.K v.n v.c] 27)
    replace hb := hb.alloc (.cells #[.int .i64 v.k, .bool v.r.s, .slice v.r.A v.r.n v.r.c, .slice v.r.B v.r.m v.r.d, .string v.s, .slice v.K v.n v.c] 27)
    replace ht := ht.alloc (.cells #[.int .i64 v.k, .bool v.r.s, .slice v.r.A v.r.n v.r.c, .slice v.r.B v.r.m v.r.d, .string v.s, .slice v.K v.n v.c] 27)
    have hne : w1.heap.size ≠ w.heap.size + 1 := by omega
    go_wp2_with fail
    refine (rblanks_c hr1 hp1 hs).mono ?_
    rw [hskp]
    rintro e w2 ⟨rfl, hr2, hb2⟩
    replace hb := hb.trans hb2
    replace k_r := k_r.but hb2 (by omega)
    replace k_e := k_e.but hb2 (by omega)
    replace ht := ht.but hb2 (fun b ⟨h1, _⟩ => by omega)
    clear hb2 hr1
    obtain ⟨h0, h1, h2, h3, h4, h5⟩ := hr2.facts
    obtain ⟨s0, s1, s2, s3, s4, s5⟩ := k_r.facts
    obtain ⟨r0, r1, r2, r3, r4, r5⟩ := k_r.thaw
    obtain ⟨e0, e1, e2, e3, e4, e5⟩ := k_e.facts
    by_cases hlt : p < S.size
    · have hres : Hid (RES = .err p 2) := by show _ = _; rw [HF2.out, if_pos hlt]; rfl
      have i1 : (p : Int) < (S.size : Int) := by omega
      clear HF2 hlt hfin hcount hstep
      go_wp2_with fail
      refine (rfail_ok 2 hr2).mono ?_
      rintro e w3 ⟨rfl, hr3, hb3⟩
      replace hb := hb.trans hb3
      replace k_r := k_r.but hb3 (by omega)
      clear hb3 h0 h1 h2 h3 h4 h5 s0 s1 s2 s3 s4 s5 r0 r1 r2 r3 r4 r5 e0 e1 e2 e3 e4 e5
      obtain ⟨h0, h1, h2, h3, h4, h5⟩ := hr3.facts
      obtain ⟨s0, s1, s2, s3, s4, s5⟩ := k_r.facts
      obtain ⟨r0, r1, r2, r3, r4, r5⟩ := k_r.thaw
      go_wp2
      go_region
      go_wp2
      refine ret6tc (fn := Tryz.f13) Tryz.results13 rfl rfl rfl rfl ((k_r.put (.int .i64 0) (.bool false) (.slice none 0 0) (.slice none 0 0) (.string ⟨#[]⟩) (.slice none 0 0)).drew) ?_
      rw [hres.out]
      exact ⟨rfl, ((hb.put (Nat.le_refl _) _ _ _ _ _ _).drew).new (by omega)⟩
    · have HF3 : Hid (RES = fin1 (.ok t u p n lg)) := by show _ = _; rw [HF2.out, if_neg hlt]
      have i1 : ¬ (p : Int) < (S.size : Int) := by omega
      clear HF2 hlt
      cases lg with
      | true =>
        have hres : Hid (RES = .err 0 3) := by show _ = _; rw [HF3.out]; exact fin1_no (fun h => Bool.noConfusion (hfin.2 h).1)
        clear HF3 hfin hcount hstep
        go_wp2
        refine ret6t (fn := Tryz.f13) Tryz.results13 rfl rfl rfl rfl k_r ?_
        rw [hres.out]
        exact ⟨rfl, (hb.put (Nat.le_refl _) _ _ _ _ _ _).new (by omega)⟩
      | false =>
        have hnn : u.nodes ≤ 1000000 := by have := hcount rfl; omega
        obtain ⟨b, hbi⟩ : ∃ b : Bool, b = true ↔ u.may 32 256 := by
          by_cases h : u.may 32 256
          · exact ⟨true, fun _ => h, fun _ => rfl⟩
          · exact ⟨false, fun h => Bool.noConfusion h, fun h1 => absurd h1 h⟩
        have HBI := Lib.hid hbi
        have HFIN := Lib.hid hfin
        clear hbi hfin hcount hstep
        go_wp2_with fail
        refine (rIsE_c b HBI.out hwf hsd hnn ht).mono ?_
        rintro e w3 ⟨rfl, hb3⟩
        replace hb := hb.trans (.of hb3)
        replace k_r := k_r.below hb3
        replace k_e := k_e.below hb3
        replace ht := ht.below hb3
        clear hb3 h0 h1 h2 h3 h4 h5 s0 s1 s2 s3 s4 s5 r0 r1 r2 r3 r4 r5 e0 e1 e2 e3 e4 e5
        obtain ⟨s0, s1, s2, s3, s4, s5⟩ := k_r.facts
        obtain ⟨r0, r1, r2, r3, r4, r5⟩ := k_r.thaw
        obtain ⟨e0, e1, e2, e3, e4, e5⟩ := k_e.facts
        cases b with
        | false =>
          have hres : Hid (RES = .err 0 3) := by show _ = _; rw [HF3.out]; exact fin1_no (fun h => Bool.noConfusion (HBI.out.2 (HFIN.out.2 h).2))
          clear HF3
          go_wp2
          refine ret6t (fn := Tryz.f13) Tryz.results13 rfl rfl rfl rfl k_r ?_
          rw [hres.out]
          exact ⟨rfl, (hb.put (Nat.le_refl _) _ _ _ _ _ _).new (by omega)⟩
        | true =>
          have h9 := HFIN.out.1 ⟨by first | rfl | trivial, HBI.out.1 (by first | rfl | trivial)⟩
          have hres : Hid (RES = .ok u) := by show _ = _; rw [HF3.out, fin1_yes h9.2, h9.1]
          clear HF3 h9
          go_wp2
          refine ret6t (fn := Tryz.f13) Tryz.results13 rfl rfl rfl rfl k_r ?_
          rw [hres.out]
          exact ⟨v, rfl, (ht.but (put6_but _ _ _ _ _ _) (fun b ⟨h1, _⟩ => by omega)).wide (fun b ⟨h1, _⟩ => by omega), (hb.put (Nat.le_refl _) _ _ _ _ _ _).new (by omega)⟩
end Go.Proofs.YtcmkgoikmleanaaGreatDoor
