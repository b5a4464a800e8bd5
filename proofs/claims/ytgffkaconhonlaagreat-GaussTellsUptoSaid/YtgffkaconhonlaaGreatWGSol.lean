/-
  The document's solve.
-/
import Derived.Test.YtgffkaconhonlaaGreatWGSolC
import Derived.Test.YtgffkaconhonlaaGreatWRgn
namespace Go.Proofs.YtgffkaconhonlaaGreat
set_option maxRecDepth 20000
open Go.RowKit
theorem sone_sz : Sz ((1 : Int) : Rat) 1 := by
 have := Sz.lit (x := 1) (y := 1) (s := false) (by omega) (by omega)
 rw [rn_int] at this
 simpa using this
structure SOne (W wx : World) (X : Nat) (z : Rv) (q : Rat) : Prop where
 cell : C3 wx X (.bool z.s) (.slice z.A z.n z.c) (.slice z.B z.m z.d)
 below : Below W.heap.size W wx
 lo : W.heap.size ≤ X
 num : Rt wx W.heap.size z q
theorem SOne.new {W w7 : World} {z : Rv} {q : Rat} {lo : Nat} (hb : Below W.heap.size W w7) (hz : Rt w7 lo z q) (hl : W.heap.size ≤ lo) : SOne W (w7.alloc (.cells #[.bool z.s, .slice z.A z.n z.c, .slice z.B z.m z.d] 26)) w7.heap.size z q :=
 ⟨C3.new w7 (.bool z.s) (.slice z.A z.n z.c) (.slice z.B z.m z.d), hb.alloc hb.size _, hb.size, (hz.below ((Below.refl _ _).alloc (Nat.le_refl _) _)).lower hl⟩
theorem SOne.put {W w7 : World} {X lo : Nat} {z : Rv} {q : Rat} (hk : C3 w7 X (.bool false) (.slice none 0 0) (.slice none 0 0)) (hX : W.heap.size ≤ X) (hl : X < lo) (hb : Below W.heap.size W w7) (hz : Rt w7 lo z q) : SOne W (put3 w7 X (.bool z.s) (.slice z.A z.n z.c) (.slice z.B z.m z.d)) X z q :=
 ⟨hk.put _ _ _, hb.trans (put3_below hX _ _ _), hX, (hz.put hl _ _ _).lower (by omega)⟩
theorem sone_al {W w6 : World} (h : Below (W.alloc (.cells #[.bool false, .slice none 0 0, .slice none 0 0] 26)).drew.heap.size (W.alloc (.cells #[.bool false, .slice none 0 0, .slice none 0 0] 26)).drew w6) : Below W.heap.size W w6 ∧ C3 w6 W.heap.size (.bool false) (.slice none 0 0) (.slice none 0 0) ∧ W.heap.size < w6.heap.size := by
 have h0 : Below W.heap.size W (W.alloc (.cells #[.bool false, .slice none 0 0, .slice none 0 0] 26)).drew := ((Below.refl _ _).alloc (Nat.le_refl _) _).drew
 have k0 : C3 (W.alloc (.cells #[.bool false, .slice none 0 0, .slice none 0 0] 26)).drew W.heap.size (.bool false) (.slice none 0 0) (.slice none 0 0) := C3.new W (.bool false) (.slice none 0 0) (.slice none 0 0)
 have k1 := k0.below h
 exact ⟨h0.trans (h.mono h0.size), k1, k1.lt⟩
theorem sone_al2 {W w6 w7 : World} (h : Below W.heap.size W w6 ∧ C3 w6 W.heap.size (.bool false) (.slice none 0 0) (.slice none 0 0) ∧ W.heap.size < w6.heap.size) (hb : Below w6.heap.size w6 w7) : Below W.heap.size W w7 ∧ C3 w7 W.heap.size (.bool false) (.slice none 0 0) (.slice none 0 0) :=
 ⟨h.1.trans (hb.mono h.1.size), h.2.1.below hb⟩
theorem sone_al3 {W w6 w7 : World} (h : Below W.heap.size W w6) (hb : Below (w6.alloc (.cells #[.bool false, .slice none 0 0, .slice none 0 0] 26)).heap.size (w6.alloc (.cells #[.bool false, .slice none 0 0, .slice none 0 0] 26)) w7) : Below W.heap.size W w7 ∧ C3 w7 w6.heap.size (.bool false) (.slice none 0 0) (.slice none 0 0) := by
 have h0 : Below w6.heap.size w6 (w6.alloc (.cells #[.bool false, .slice none 0 0, .slice none 0 0] 26)) := (Below.refl _ _).alloc (Nat.le_refl _) _
 exact ⟨h.trans ((h0.trans (hb.mono h0.size)).mono h.size), (C3.new w6 (.bool false) (.slice none 0 0) (.slice none 0 0)).below hb⟩
theorem sol_start {w2 w5 wc : World} {ba c4 N X : Nat} {l : List Rv} {fa : Nat → Rat} {c : Rat} {z : Rv} (hg : GrR w5 w2.heap.size (some ⟨ba, 0, none⟩) c4 N l fa 28500000000) (ho : SOne w5 wc X z c) (hb : Below w2.heap.size w2 w5) (hc : Sz c 28500000000) (hba : ba < w5.heap.size) :
  GrR wc w2.heap.size (some ⟨ba, 0, none⟩) c4 N l (tmsTo fa c 0) 28500000000 ∧ Below w2.heap.size w2 wc ∧ C3 wc X (.bool z.s) (.slice z.A z.n z.c) (.slice z.B z.m z.d) ∧ RwO wc (some ⟨ba, 0, none⟩) z c 28500000000 ∧ FrTo w5.heap.size 0 l ∧ w5.heap.size ≤ wc.heap.size :=
 ⟨hg.below ho.below, hb.trans (ho.below.mono hb.size), ho.cell, ho.num.off hc (fun ad e => by injection e with e; subst e; exact hba), fun i y hi => absurd hi (by omega), ho.below.size⟩
theorem sol_step {w2 w5 wr w8 : World} {ba c4 N X j lo8 : Nat} {l : List Rv} {fa : Nat → Rat} {c : Rat} {z u : Rv}
  (h : GrR wr w2.heap.size (some ⟨ba, 0, none⟩) c4 N l (tmsTo fa c j) 28500000000 ∧ Below w2.heap.size w2 wr ∧ C3 wr X (.bool z.s) (.slice z.A z.n z.c) (.slice z.B z.m z.d) ∧ RwO wr (some ⟨ba, 0, none⟩) z c 28500000000 ∧ FrTo w5.heap.size j l ∧ w5.heap.size ≤ wr.heap.size)
  (hb : Below wr.heap.size wr w8) (hu : Rt w8 lo8 u (fa j * c)) (hlo : wr.heap.size ≤ lo8) (hs : Sz (fa j * c) 5000000000) (hX : w5.heap.size ≤ X) (hba : w2.heap.size ≤ ba ∧ ba < w5.heap.size) :
  GrR (putR w8 ba (j * 3) u) w2.heap.size (some ⟨ba, 0, none⟩) c4 N (l.set j u) (tmsTo fa c (j + 1)) 28500000000 ∧ Below w2.heap.size w2 (putR w8 ba (j * 3) u) ∧ C3 (putR w8 ba (j * 3) u) X (.bool z.s) (.slice z.A z.n z.c) (.slice z.B z.m z.d) ∧ RwO (putR w8 ba (j * 3) u) (some ⟨ba, 0, none⟩) z c 28500000000 ∧ FrTo w5.heap.size (j + 1) (l.set j u) ∧ w5.heap.size ≤ (putR w8 ba (j * 3) u).heap.size := by
 obtain ⟨h1, h2, h3, h4, h5, h6⟩ := h
 have hg := putR_grown w8 ba (j * 3) u
 have hsz := hg.size
 have hbs := hb.size
 refine ⟨?_, putR_below (h2.trans (hb.mono h2.size)) hba.1 _ _, ?_, (h4.below hb).grown hg, ?_, by omega⟩
 ·
  have ho : RwO w8 (some ⟨ba, 0, none⟩) u (fa j * c) 28500000000 := hu.off (hs.more (by omega)) (fun ad e => by injection e with e; subst e; show ba < lo8; omega)
  refine ((h1.below hb).set (j := j) ho).congr fun i _ => ?_
  unfold upd tmsTo
  by_cases e : i = j
  ·
   subst e
   rw [if_pos rfl, if_pos (by omega)]
  ·
   rw [if_neg e]
   by_cases e2 : i < j
   · rw [if_pos e2, if_pos (by omega)]
   · rw [if_neg e2, if_neg (by omega)]
 ·
  have k8 := h3.below hb
  exact (hg.block X k8.lt (fun e => by injection e with e; omega)).trans k8
 ·
  intro i y hi hy
  rw [List.getElem?_set] at hy
  split at hy
  ·
   next e =>
   split at hy
   ·
    injection hy with hy
    subst hy
    have hf := hu.fresh1
    exact ⟨fun hn a e => Nat.le_trans (by omega) (hf.1 hn a e), fun hn a e => Nat.le_trans (by omega) (hf.2 hn a e)⟩
   · cases hy
  · next e => exact h5 i y (by omega) hy
set_option maxHeartbeats 12800000 in
theorem rSolve_c (A : Option Addr) (m c n N : Nat) (Pe : (Nat → Rat) → Prop) (vs : List Cin) (w : World) (hv : Cns w A m n Pe vs) (hN : N = n + 1) (hn : n ≤ 60) (hm : m ≤ 900) (hS : SolSz n Pe vs) :
  Calls Tryz.prog 45 #[.slice A m c, .int .i64 (n : Int)] w fun e w' => ∃ (B : Option Addr) (d p : Nat) (R : List Rov), e = .returned (.tuple #[.slice B p d, .bool (solTo n vs m).2]) ∧ SolAt w w' n N m vs B d p R := by
 have n0 : (0 : Int) ≤ (n : Int) := by omega
 have n9 : (n : Int) ≤ 60 := by omega
 have m0 : (0 : Int) ≤ (m : Int) := by omega
 have m9 : (m : Int) ≤ 900 := by omega
 have HV := Lib.hid hv
 have HN := Lib.hid hN
 have HBD := Lib.hid hS
 clear hv hN hS
 go_enter Tryz.func45, Tryz.ntmps45
 go_wp2
 go_loopw [6, 7, 8] (fun rv bv iv wr => ∃ (i : Nat) (B : Option Addr) (d p : Nat) (R : List Rov) (b : Bool), i ≤ m ∧ rv = .slice B p d ∧ bv = .bool b ∧ iv = .int .i64 i ∧ Hid (b = (solTo n vs i).2 ∧ SolAt w wr n N i vs B d p R)) (fun _ _ iv _ => m - (intOf iv).toNat)
 case atStart => exact ⟨0, none, 0, 0, [], true, by omega, rfl, rfl, rfl, Lib.hid ⟨rfl, MatO.nil_ _ _ _, rfl, Below.refl _ _⟩⟩
 case round =>
  obtain ⟨i, B, d, p, R, b, hi, rfl, rfl, rfl, HI⟩ := hrel
  have i0 : (0 : Int) ≤ (i : Int) := by omega
  by_cases hlt : i < m
  ·
   have i1 : (i : Int) < (m : Int) := by omega
   obtain ⟨bs, os, hA, hbs, hcs⟩ := HV.out.mem (by omega)
   subst hA
   obtain ⟨x, hx⟩ : ∃ x, vs[i]? = some x := ⟨_, List.getElem?_eq_getElem (by rw [HV.out.len]; exact hlt)⟩
   have HX : Hid (vs[i]? = some x ∧ x ∈ vs) := ⟨hx, List.mem_of_getElem? hx⟩
   have HC : Hid (∀ w', Below w.heap.size w w' → At5 w' bs (os + i * 5) x.v) := fun w' h => (hcs i x hx).keep (h.block bs hbs)
   clear hx hcs
   obtain ⟨s0, s1, s2, s3, s4⟩ := HC.out _ HI.out.2.below
   go_wp2_with fail
   refine (HV.out.is_ x HX.out.2 _ HI.out.2.below).mono ?_
   rintro e w2 ⟨rfl, hb2⟩
   cases hok : x.ok with
   |
    false =>
    have HG := Lib.hid (And.intro (show b = (solTo n vs (i + 1)).2 by rw [solTo_no HX.out.1 hok]; exact HI.out.1) (HI.out.2.skip HX.out.1 hok hb2))
    clear s0 s1 s2 s3 s4 hb2 hok
    go_wp2
    go_roundw
    case rel => exact ⟨i + 1, B, d, p, R, b, by omega, rfl, rfl, by go_num, HG⟩
    case measure => simp [intOf]; omega
   |
    true =>
    have HOK := Lib.hid hok
    have HB2 := Lib.hid hb2
    have HF := Lib.hid (HV.out.fit x HX.out.2 hok)
    have HR := Lib.hid (HV.out.rd x HX.out.2)
    have HW2 := Lib.hid (HI.out.2.below.trans (hb2.mono HI.out.2.below.size))
    clear s0 s1 s2 s3 s4 hb2 hok
    obtain ⟨s0, s1, s2, s3, s4⟩ := HC.out _ HW2.out
    go_wp2_with fail
    refine (rRow_c x.v x.L x.k n N _ (HR.out.1.below HW2.out) HF.out.1 HR.out.2 HN.out (by omega)).mono ?_
    rintro e w3 ⟨A3, c3, l3, rfl, hg3, hb3⟩
    have HB3 := Lib.hid (HB2.out.trans (hb3.mono HB2.out.size))
    have HG3 := Lib.hid hg3
    have HW3 := Lib.hid (HI.out.2.below.trans (HB3.out.mono HI.out.2.below.size))
    have HLO : Hid (w2.heap.size ≤ w3.heap.size) := hb3.size
    have HB23 := Lib.hid hb3
    clear hg3 hb3
    go_wp2_with fail
    refine (rReduce_c B A3 p n N d c3 w2.heap.size R l3 (rowF n x.L x.k) _ (HI.out.2.mat.below HB3.out).mat HG3.out HN.out (by omega) (by have := HI.out.2.le; omega) HLO.out (HI.out.2.sizes HN.out HBD.out HF.out.2)).mono ?_
    rintro e w4 ⟨A4, c4, l4, rfl, hg4, hb4⟩
    obtain ⟨fa, hfa⟩ : ∃ fa, fa = red n (R.map (·.f)) (rowF n x.L x.k) := ⟨_, rfl⟩
    rw [← hfa] at hg4
    have HFA := Lib.hid hfa
    have HG4 := Lib.hid hg4
    have HB4 := Lib.hid (HB3.out.trans (hb4.mono HB3.out.size))
    have HW4 := Lib.hid (HI.out.2.below.trans (HB4.out.mono HI.out.2.below.size))
    have HB24 := Lib.hid (HB23.out.trans (hb4.mono HB23.out.size))
    clear hfa hg4 hb4 s0 s1 s2 s3 s4
    go_wp2_with fail
    refine (rLead_c A4 N n c4 l4 fa 28500000000 _ HG4.out.vec HN.out (by omega) (by omega)).mono ?_
    rintro e w5 ⟨he, hb5⟩
    obtain ⟨k, hk⟩ : ∃ k, k = lead n fa := ⟨_, rfl⟩
    have hkn : k ≤ n := by rw [hk]; exact lead_le n fa
    rw [← hk] at he
    subst he
    have HK := Lib.hid hk
    have HG5 := Lib.hid (HG4.out.below hb5)
    have HB5 := Lib.hid (HB4.out.trans (hb5.mono HB4.out.size))
    have HW5 := Lib.hid (HI.out.2.below.trans (HB5.out.mono HI.out.2.below.size))
    have HW25 : Hid (Below w2.heap.size w2 w5) := HB24.out.trans (hb5.mono HB24.out.size)
    clear hk hb5
    by_cases hkn2 : k = n
    ·
     subst hkn2
     have k1 : (k : Int) < (N : Int) := by have := HN.out; omega
     obtain ⟨ba, oa, y, hA4, hba, hy, hyr⟩ := HG5.out.vec.at_ (i := k) (by have := HN.out; omega)
     subst hA4
     obtain ⟨y0, y1, y2⟩ := hy
     have HYR := Lib.hid hyr
     clear hyr
     cases b with
     |
      false =>
      have HE : Hid (false = (solTo k vs (i + 1)).2 ∧ SolAt w w5 k N (i + 1) vs B d p R) := HI.out.2.none HI.out.1 HX.out.1 HOK.out HFA.out HK.out HB5.out
      go_wp2
      go_roundw
      case rel => exact ⟨i + 1, B, d, p, R, false, by omega, rfl, rfl, by go_num, HE⟩
      case measure => simp [intOf]; omega
     |
      true =>
      go_wp2_with fail
      refine (rZero_v y (fa k) (decide (fa k = 0)) _ (HYR.out.more (by omega)) rfl).mono ?_
      rintro e w6 ⟨rfl, hb6⟩
      have HE : Hid (decide (fa k = 0) = (solTo k vs (i + 1)).2 ∧ SolAt w w6 k N (i + 1) vs B d p R) := by
       have := HI.out.2.none HI.out.1 HX.out.1 HOK.out HFA.out HK.out (HB5.out.trans (hb6.mono HB5.out.size))
       rwa [Bool.true_and] at this
      clear y0 y1 y2 hb6
      go_wp2
      go_roundw
      case rel => exact ⟨i + 1, B, d, p, R, decide (fa k = 0), by omega, rfl, rfl, by go_num, HE⟩
      case measure => simp [intOf]; omega
    ·
     have k1 : (k : Int) < (N : Int) := by have := HN.out; omega
     have kN : k < N := by have := HN.out; omega
     have k2 : ¬ (k : Int) = (n : Int) := by omega
     have k3 : ((k : Int) == (n : Int)) = false := by rw [beq_eq_false_iff_ne]; exact k2
     have HNZ : Hid (fa k ≠ 0) := by
      show _ ≠ _
      have h1 := lead_ne (n := n) (a := fa) (by rw [← HK.out]; omega)
      rwa [← HK.out] at h1
     obtain ⟨ba, oa, y, hA4, hba, hy, hyr⟩ := HG5.out.vec.at_ kN
     subst hA4
     have HYK : Hid (∀ w', Below w5.heap.size w5 w' → At3 w' ba (oa + k * 3) y ∧ Rw w' y (fa k) 28500000000) := fun w' h => ⟨hy.keep (h.block ba hba), hyr.below h⟩
     obtain ⟨y0, y1, y2⟩ := hy
     clear hyr
     go_wp2_with fail
     go_cut [11, 12] from 49 to 57 (fun xv bv wx => ∃ (X : Nat) (z : Rv), xv = .pointer (some ⟨X, 0, none⟩) ∧ bv = .bool true ∧ Hid (SOne w5 wx X z (1 / fa k)))
     case first =>
      refine wp_region_held_drew (S := fun w' => w'.cell? ⟨ba, oa + k * 3, none⟩ = some (.bool y.s) ∧ w'.cell? ⟨ba, oa + k * 3 + 1, none⟩ = some (.slice y.A y.n y.c) ∧ w'.cell? ⟨ba, oa + k * 3 + 2, none⟩ = some (.slice y.B y.m y.d)) (by kernel_rfl) ?_ (fun hHeld => ?_)
      ·
       (try dsimp only)
       go_keep
      refine tk (i := 1) (h := ?_)
      try simp only [zR]
      refine tk (i := 2) (h := ?_)
      try simp only [zR]
      refine tk (i := 3) (h := ?_)
      try simp only [zR]
      refine tk (i := 4) (h := ?_)
      try simp only [zR]
      refine tr [0, 9] ?_
      refine tc (h := fun K hK => ?_) (hs := tc (h := fun K hK => ?_) (hs := tn))
      ·
       skip
       try go_simp
       go_at_call 28
       refine (rInt_c 1 _ (by omega)).mono ?_
       rintro ee w6 ⟨z1, rfl, hz1, hb6⟩
       have H6 := Lib.hid ((drew_bel w5).trans hb6)
       have HZ1 := Lib.hid (hz1.rw sone_sz)
       clear y0 y1 y2 hb6 hz1
       obtain ⟨y0, y1, y2⟩ := (HYK.out _ H6.out).1
       try go_wp2_with fail
       refine hK.out _ _ ?_ (fun hHeld => ?_)
       · (try dsimp only); go_keep
       clear hK K
       try simp only [zR]
       refine tr [5, 9] ?_
       refine tc (h := fun K hK => ?_) (hs := tc (h := fun K hK => ?_) (hs := tn))
       ·
        skip
        try go_simp
        go_at_call 83
        refine (rDiv_c z1 y 1 (fa k) _ (HZ1.out.more (by omega)) ((HYK.out _ H6.out).2) HNZ).mono ?_
        rintro ee w7 ⟨z, rfl, hz, hb7⟩
        have H7 := Lib.hid (H6.out.trans (hb7.mono H6.out.size))
        have HZ := Lib.hid hz
        have HL7 := Lib.hid H6.out.size
        have hx7 := H7.out.size
        have m1 : ¬ ba = w7.heap.size := by omega
        have m2 : ¬ w7.heap.size = ba := by omega
        clear y0 y1 y2 hb7 hz
        obtain ⟨y0, y1, y2⟩ := (HYK.out _ H7.out).1
        try go_wp2_with fail
        refine hK.out _ _ ?_ (fun hHeld => ?_)
        · (try dsimp only); go_keep
        clear hK K
        try simp only [zR]
        refine tk (i := 6) (h := ?_)
        try simp only [zR]
        refine tk (i := 7) (h := ?_)
        try simp only [zR]
        refine tk (i := 8) (h := ?_)
        try simp only [zR]
        refine tr [9] ?_
        refine tc (h := fun K hK => ?_) (hs := tn)
        try go_simp
        try go_wp2_with fail
        refine hK.out _ _ ?_ (fun hHeld => ?_)
        · (try dsimp only); go_keep
        clear hK K
        try simp only [zR]
        refine tr [10] ?_
        refine tc (h := fun K hK => ?_) (hs := tn)
        try go_simp
        try go_wp2_with fail
        refine hK.out _ _ ?_ (fun hHeld => ?_)
        · (try dsimp only); go_keep
        clear hK K
        try simp only [zR]
        refine tk (i := 11) (h := ?_)
        try simp only [zR]
        refine wpAnyH_done (by kernel_rfl) ?_ _
        go_wp2_with fail
        go_meet
        exact ⟨_, z, rfl, rfl, Lib.hid (SOne.new H7.out HZ.out HL7.out)⟩
       ·
        skip
        try go_simp
        try go_wp2_with fail
        refine hK.out _ _ ?_ (fun hHeld => ?_)
        · (try dsimp only); go_keep
        clear hK K
        try simp only [zR]
        refine tr [5] ?_
        refine tc (h := fun K hK => ?_) (hs := tn)
        try go_simp
        go_at_call 83
        refine (rDiv_c z1 y 1 (fa k) _ ((HZ1.out.alloc (.cells #[.bool false, .slice none 0 0, .slice none 0 0] 26)).more (by omega)) ((HYK.out _ (H6.out.alloc H6.out.size (.cells #[.bool false, .slice none 0 0, .slice none 0 0] 26))).2) HNZ).mono ?_
        rintro ee w7 ⟨z, rfl, hz, hb7⟩
        have H7 := Lib.hid (sone_al3 H6.out hb7)
        have HZ := Lib.hid hz
        have HL7 : Hid (w6.heap.size < (w6.alloc (.cells #[.bool false, .slice none 0 0, .slice none 0 0] 26)).heap.size) := by show _ < _; simp
        have hx6 := H6.out.size
        have m1 : ¬ ba = w6.heap.size := by omega
        have m2 : ¬ w6.heap.size = ba := by omega
        clear y0 y1 y2 hb7 hz
        obtain ⟨y0, y1, y2⟩ := (HYK.out _ H7.out.1).1
        obtain ⟨q0, q1, q2, t0, t1, t2⟩ := H7.out.2.facts
        try go_wp2_with fail
        refine hK.out _ _ ?_ (fun hHeld => ?_)
        · (try dsimp only); go_keep
        clear hK K
        try simp only [zR]
        refine tk (i := 6) (h := ?_)
        try simp only [zR]
        refine tk (i := 7) (h := ?_)
        try simp only [zR]
        refine tk (i := 8) (h := ?_)
        try simp only [zR]
        refine tr [10] ?_
        refine tc (h := fun K hK => ?_) (hs := tn)
        try go_simp
        try go_wp2_with fail
        refine hK.out _ _ ?_ (fun hHeld => ?_)
        · (try dsimp only); go_keep
        clear hK K
        try simp only [zR]
        refine tk (i := 11) (h := ?_)
        try simp only [zR]
        refine wpAnyH_done (by kernel_rfl) ?_ _
        go_wp2_with fail
        go_meet
        exact ⟨_, z, rfl, rfl, Lib.hid (SOne.put H7.out.2 H6.out.size HL7.out H7.out.1 HZ.out)⟩
      ·
       skip
       try go_simp
       try go_wp2_with fail
       refine hK.out _ _ ?_ (fun hHeld => ?_)
       · (try dsimp only); go_keep
       clear hK K
       try simp only [zR]
       refine tr [0] ?_
       refine tc (h := fun K hK => ?_) (hs := tn)
       try go_simp
       go_at_call 28
       refine (rInt_c 1 _ (by omega)).mono ?_
       rintro ee w6 ⟨z1, rfl, hz1, hb6⟩
       have H6 := Lib.hid (sone_al (W := w5) hb6)
       have HZ1 := Lib.hid (hz1.rw sone_sz)
       clear y0 y1 y2 hb6 hz1
       obtain ⟨y0, y1, y2⟩ := (HYK.out _ H6.out.1).1
       obtain ⟨q0, q1, q2, t0, t1, t2⟩ := H6.out.2.1.facts
       have hx6 := H6.out.2.2
       have m1 : ¬ ba = w5.heap.size := by omega
       have m2 : ¬ w5.heap.size = ba := by omega
       try go_wp2_with fail
       refine hK.out _ _ ?_ (fun hHeld => ?_)
       · (try dsimp only); go_keep
       clear hK K
       try simp only [zR]
       refine tr [5] ?_
       refine tc (h := fun K hK => ?_) (hs := tn)
       try go_simp
       go_at_call 83
       refine (rDiv_c z1 y 1 (fa k) _ (HZ1.out.more (by omega)) ((HYK.out _ H6.out.1).2) HNZ).mono ?_
       rintro ee w7 ⟨z, rfl, hz, hb7⟩
       have H7 := Lib.hid (sone_al2 H6.out hb7)
       have HZ := Lib.hid hz
       have HL7 : Hid (w5.heap.size < w6.heap.size) := hx6
       clear y0 y1 y2 q0 q1 q2 t0 t1 t2 hb7 hz hx6
       obtain ⟨y0, y1, y2⟩ := (HYK.out _ H7.out.1).1
       obtain ⟨q0, q1, q2, t0, t1, t2⟩ := H7.out.2.facts
       try go_wp2_with fail
       refine hK.out _ _ ?_ (fun hHeld => ?_)
       · (try dsimp only); go_keep
       clear hK K
       try simp only [zR]
       refine tk (i := 6) (h := ?_)
       try simp only [zR]
       refine tk (i := 7) (h := ?_)
       try simp only [zR]
       refine tk (i := 8) (h := ?_)
       try simp only [zR]
       refine tr [10] ?_
       refine tc (h := fun K hK => ?_) (hs := tn)
       try go_simp
       try go_wp2_with fail
       refine hK.out _ _ ?_ (fun hHeld => ?_)
       · (try dsimp only); go_keep
       clear hK K
       try simp only [zR]
       refine tk (i := 11) (h := ?_)
       try simp only [zR]
       refine wpAnyH_done (by kernel_rfl) ?_ _
       go_wp2_with fail
       go_meet
       exact ⟨_, z, rfl, rfl, Lib.hid (SOne.put H7.out.2 (Nat.le_refl _) HL7.out H7.out.1 HZ.out)⟩
     case rest =>
      obtain ⟨X, z, rfl, rfl, HONE⟩ := hcut
      clear y0 y1 y2
      have N61 : (N : Int) ≤ 61 := by have := HN.out; omega
      have HTS := Lib.hid (HI.out.2.lead_sz HN.out HV.out.fit2 HBD.out HX.out.1 HOK.out HFA.out HK.out hkn2)
      obtain ⟨ga, eg, hgl, hgs, _⟩ := HG5.out.own.mem (by have := HN.out; omega)
      injection eg with eg
      injection eg with eg1 eg2 _
      subst eg1
      subst eg2
      have HBW := Lib.hid (And.intro hgl hgs)
      clear hgl hgs
      go_wp2
      go_loopw [13] (fun jv wr => ∃ (j : Nat) (l' : List Rv), j ≤ N ∧ jv = .int .i64 j ∧ Hid (GrR wr w2.heap.size (some ⟨ba, 0, none⟩) c4 N l' (tmsTo fa (1 / fa k) j) 28500000000 ∧ Below w2.heap.size w2 wr ∧ C3 wr X (.bool z.s) (.slice z.A z.n z.c) (.slice z.B z.m z.d) ∧ RwO wr (some ⟨ba, 0, none⟩) z (1 / fa k) 28500000000 ∧ FrTo w5.heap.size j l' ∧ w5.heap.size ≤ wr.heap.size)) (fun jv _ => N - (intOf jv).toNat)
      case atStart => exact ⟨0, l4, by omega, rfl, Lib.hid (sol_start HG5.out HONE.out HW25.out HTS.out.2 HBW.out.2)⟩
      case round =>
       obtain ⟨j, l', hj, rfl, HJ⟩ := hrel
       have j0 : (0 : Int) ≤ (j : Int) := by omega
       by_cases hlj : j < N
       ·
        have j1 : (j : Int) < (N : Int) := by omega
        obtain ⟨y, hy⟩ : ∃ y, l'[j]? = some y := ⟨_, List.getElem?_eq_getElem (by rw [HJ.out.1.own.len]; exact hlj)⟩
        have HYR : Hid (∀ w', Below wr.heap.size wr w' → Rw w' y (fa j) 28500000000) := fun w' h => by
         have h1 := (HJ.out.1.rd j y hy).1
         have e : tmsTo fa (1 / fa k) j j = fa j := by unfold tmsTo; rw [if_neg (by omega)]
         rw [e] at h1
         exact h1.below h
        have HCE : Hid (∀ w', Below wr.heap.size wr w' → At3 w' ba (j * 3) y ∧ C3 w' X (.bool z.s) (.slice z.A z.n z.c) (.slice z.B z.m z.d)) := fun w' h => by
         obtain ⟨b', eb, _, hb', hcj⟩ := HJ.out.1.own.mem (by omega)
         injection eb with eb
         injection eb with eb
         subst eb
         have h1 := hcj j y hy
         rw [Nat.zero_add] at h1
         exact ⟨h1.keep (h.block ba hb'), HJ.out.2.2.1.below h⟩
        clear hy
        have n1 : ¬ X = ba := by have := HONE.out.lo; have := HBW.out.2; omega
        have n2 : ¬ ba = X := fun e => n1 e.symm
        obtain ⟨y0, y1, y2⟩ := (HCE.out _ (Below.refl _ _)).1
        obtain ⟨z0, z1', z2, _, _, _⟩ := (HCE.out _ (Below.refl _ _)).2.facts
        obtain ⟨_, t0, t1, t2⟩ := HJ.out.1.own.room hlj
        go_wp2_with fail
        refine wp_region_held_drew (S := fun w' => w'.cell? ⟨X, 0, none⟩ = some (.bool z.s) ∧ w'.cell? ⟨X, 1, none⟩ = some (.slice z.A z.n z.c) ∧ w'.cell? ⟨X, 2, none⟩ = some (.slice z.B z.m z.d)) (by kernel_rfl) ?_ (fun hHeld => ?_)
        ·
         (try dsimp only)
         go_keep
        refine tk (i := 0) (h := ?_)
        try simp only [zR]
        refine tk (i := 1) (h := ?_)
        try simp only [zR]
        refine tk (i := 2) (h := ?_)
        try simp only [zR]
        refine tk (i := 3) (h := ?_)
        try simp only [zR]
        refine tk (i := 4) (h := ?_)
        try simp only [zR]
        refine tk (i := 6) (h := ?_)
        try simp only [zR]
        refine tr [5] ?_
        refine tc (h := fun K hK => ?_) (hs := tn)
        try go_simp
        try go_wp2_with fail
        refine hK.out _ _ ?_ (fun hHeld => ?_)
        · (try dsimp only); go_keep
        clear hK K
        try simp only [zR]
        refine tr [7] ?_
        refine tc (h := fun K hK => ?_) (hs := tn)
        try go_simp
        go_at_call 57
        refine (rMul_c y z (fa j) (1 / fa k) _ (HYR.out _ (drew_bel wr)) ((HJ.out.2.2.2.1.below (drew_bel wr)).1)).mono ?_
        rintro ee w8 ⟨u, rfl, hu, hb8⟩
        have HS := Lib.hid (sol_step HJ.out ((drew_bel wr).trans hb8) hu (Nat.le_refl _) (HTS.out.1 j hlj) HONE.out.lo HBW.out)
        clear y0 y1 y2 z0 z1' z2 t0 t1 t2
        obtain ⟨y0, y1, y2⟩ := (HCE.out _ ((drew_bel wr).trans hb8)).1
        obtain ⟨z0, z1', z2, _, _, _⟩ := (HCE.out _ ((drew_bel wr).trans hb8)).2.facts
        obtain ⟨_, t0, t1, t2⟩ := (HJ.out.1.below ((drew_bel wr).trans hb8)).own.room hlj
        clear hu hb8
        try go_wp2_with fail
        refine hK.out _ _ ?_ (fun hHeld => ?_)
        · (try dsimp only); go_keep
        clear hK K
        try simp only [zR]
        refine tk (i := 8) (h := ?_)
        try simp only [zR]
        refine tr [9] ?_
        refine tc (h := fun K hK => ?_) (hs := tn)
        try go_simp
        try go_wp2_with fail
        refine hK.out _ _ ?_ (fun hHeld => ?_)
        · (try dsimp only); go_keep
        clear hK K
        try simp only [zR]
        refine wpAnyH_done (by kernel_rfl) ?_ _
        unfold putR at HS
        clear y0 y1 y2 z0 z1' z2 t0 t1 t2
        go_wp2
        go_roundw
        case rel => exact ⟨j + 1, l'.set j u, by omega, by go_num, HS⟩
        case measure => simp [intOf]; omega
       ·
        obtain rfl : j = N := by omega
        have HR0 : Hid (SolR w wr B d p j R R (tms fa (1 / fa k)) k 0 ⟨some ⟨ba, 0, none⟩, c4, l', tms fa (1 / fa k)⟩) := SolR.start HI.out.2 HB2.out HJ.out.1 HJ.out.2.1 HJ.out.2.2.2.2.1 HW25.out.size
        have HSZ := Lib.hid (HI.out.2.row_sz HN.out HV.out.fit2 HBD.out HX.out.1 HOK.out HFA.out HK.out hkn2)
        have HPN : Hid (p ≤ n) := HI.out.2.le
        have HRL : Hid (R.length = p) := HI.out.2.mat.len
        have p0 : (0 : Int) ≤ (p : Int) := by omega
        have p9 : (p : Int) ≤ 60 := by have := HPN.out; omega
        have j1 : ¬ (j : Int) < (j : Int) := by omega
        go_wp2
        go_loopw [14] (fun jv wq => ∃ (i2 : Nat) (R' : List Rov), i2 ≤ p ∧ jv = .int .i64 i2 ∧ Hid (SolR w wq B d p j R R' (tms fa (1 / fa k)) k i2 ⟨some ⟨ba, 0, none⟩, c4, l', tms fa (1 / fa k)⟩)) (fun jv _ => p - (intOf jv).toNat)
        case atStart => exact ⟨0, R, by omega, rfl, HR0⟩
        case round =>
         obtain ⟨i2, R', hi2, rfl, HR⟩ := hrel
         have i20 : (0 : Int) ≤ (i2 : Int) := by omega
         clear j1
         by_cases hl2 : i2 < p
         ·
          have i21 : (i2 : Int) < (p : Int) := by omega
          obtain ⟨r, hr⟩ : ∃ r, R[i2]? = some r := ⟨_, List.getElem?_eq_getElem (by rw [HRL.out]; exact hl2)⟩
          obtain ⟨r', hr', hrf⟩ := HR.out.at_ i2 r hr
          rw [if_neg (by omega)] at hrf
          obtain ⟨g, eB, hg0, hg1, hcell⟩ := HR.out.mat.form (by omega)
          have HRR := Lib.hid hr
          have HRO := Lib.hid (HR.out.mat.rd r' (List.mem_of_getElem? hr'))
          obtain ⟨rb, ro, y, eA, hrb, hy, hyr⟩ := HRO.out.vec.at_ (i := k) kN
          rw [hrf] at hyr
          have hne := HRO.out.ne (by omega) _ eA g (by rw [eB]; rfl)
          have hc2 := hcell i2 r' hr'
          rw [eA] at hc2
          have HCE : Hid (∀ w', Below wr.heap.size wr w' → w'.cell? ⟨g, i2, none⟩ = some (.slice (some ⟨rb, ro, none⟩) j r'.c) ∧ At3 w' rb (ro + k * 3) y ∧ Rw w' y (r.f k) 28500000000) := fun w' h => ⟨(World.cell?_of_block (h.block g hg1)).trans hc2, hy.keep (h.block rb hrb), hyr.below h⟩
          have HVR : Hid (∀ w', Below wr.heap.size wr w' → Vec w' (some ⟨rb, ro, none⟩) j r'.l r.f 28500000000 ∧ Vec w' (some ⟨ba, 0, none⟩) j l' (tms fa (1 / fa k)) 28500000000) := fun w' h => by
           have h1 := HRO.out.vec.below h
           rw [eA, hrf] at h1
           exact ⟨h1, HR.out.row.vec.below h⟩
          have n1 : ¬ rb = g := hne
          have n2 : ¬ g = rb := fun e => hne e.symm
          subst eB
          have hfz := HR.out.mat.own.frozenAt i2
          clear hr hr' hrf hcell eA hy hyr hc2 hne
          obtain ⟨c0, ⟨y0, y1, y2⟩, _⟩ := HCE.out _ (Below.refl _ _)
          by_cases hz : r.f k = 0
          ·
           have HZ := Lib.hid hz
           clear hz hfz
           go_wp2_with fail
           refine (rZero_v y (r.f k) true _ ((HCE.out _ (Below.refl _ _)).2.2.more (by omega)) (by simp [HZ.out])).mono ?_
           rintro e w8 ⟨rfl, hb8⟩
           have HE := Lib.hid (HR.out.skip HRR.out HZ.out hb8)
           clear c0 y0 y1 y2 hb8
           go_wp2
           go_roundw
           case rel => exact ⟨i2 + 1, R', by omega, by go_num, HE⟩
           case measure => simp [intOf]; omega
          ·
           have HZ := Lib.hid hz
           clear hz
           go_wp2_with fail
           refine (rZero_v y (r.f k) false _ ((HCE.out _ (Below.refl _ _)).2.2.more (by omega)) (by simp [HZ.out])).mono ?_
           rintro e w8 ⟨rfl, hb8⟩
           have HB8 := Lib.hid hb8
           have HR8 := Lib.hid (HR.out.later hb8)
           have hf8 := HR8.out.mat.own.frozenAt i2
           clear c0 y0 y1 y2 hb8 hfz
           obtain ⟨c0, ⟨y0, y1, y2⟩, _⟩ := HCE.out _ HB8.out
           go_wp2_with fail
           refine wp_region_held_drew (S := fun w' => w'.cell? ⟨rb, ro + k * 3, none⟩ = some (.bool y.s) ∧ w'.cell? ⟨rb, ro + k * 3 + 1, none⟩ = some (.slice y.A y.n y.c) ∧ w'.cell? ⟨rb, ro + k * 3 + 2, none⟩ = some (.slice y.B y.m y.d)) (by kernel_rfl) ?_ (fun hHeld => ?_)
           ·
            (try dsimp only)
            go_keep
           refine tk (i := 0) (h := ?_)
           try simp only [zR]
           refine tk (i := 1) (h := ?_)
           try simp only [zR]
           refine tk (i := 2) (h := ?_)
           try simp only [zR]
           refine tk (i := 3) (h := ?_)
           try simp only [zR]
           refine tk (i := 4) (h := ?_)
           try simp only [zR]
           refine tk (i := 6) (h := ?_)
           try simp only [zR]
           refine tk (i := 7) (h := ?_)
           try simp only [zR]
           refine tk (i := 8) (h := ?_)
           try simp only [zR]
           refine tk (i := 9) (h := ?_)
           try simp only [zR]
           refine tk (i := 11) (h := ?_)
           try simp only [zR]
           refine tr [5, 10] ?_
           refine tc (h := fun K hK => ?_) (hs := tc (h := fun K hK => ?_) (hs := tn))
           ·
            skip
            try go_simp
            try go_wp2_with fail
            refine hK.out _ _ ?_ (fun hHeld => ?_)
            · (try dsimp only); go_keep
            clear hK K
            try simp only [zR]
            refine tr [10] ?_
            refine tc (h := fun K hK => ?_) (hs := tn)
            try go_simp
            try go_wp2_with fail
            refine hK.out _ _ ?_ (fun hHeld => ?_)
            · (try dsimp only); go_keep
            clear hK K
            try simp only [zR]
            refine tk (i := 12) (h := ?_)
            try simp only [zR]
            refine tk (i := 13) (h := ?_)
            try simp only [zR]
            refine tr [14] ?_
            refine tc (h := fun K hK => ?_) (hs := tn)
            try go_simp
            go_at_call 84
            refine (rLess_c (some ⟨rb, ro, none⟩) (some ⟨ba, 0, none⟩) j r'.c c4 r'.l l' r.f (tms fa (1 / fa k)) y (r.f k) 28500000000 _ (HVR.out _ (HB8.out.trans ((drew_bel w8).mono HB8.out.size))).1.nums (HVR.out _ (HB8.out.trans ((drew_bel w8).mono HB8.out.size))).2.nums (HVR.out _ (HB8.out.trans ((drew_bel w8).mono HB8.out.size))).1.rd (HVR.out _ (HB8.out.trans ((drew_bel w8).mono HB8.out.size))).2.rd (HCE.out _ (HB8.out.trans ((drew_bel w8).mono HB8.out.size))).2.2 (by have := HN.out; omega) (HSZ.out r (List.mem_of_getElem? HRR.out))).mono ?_
            rintro ee w9 ⟨A9, c9, l9, rfl, ⟨hg9, hf9⟩, hb9⟩
            have HS := Lib.hid (HR8.out.put HRR.out ((drew_bel w8).trans hb9) hg9 hf9 (Nat.le_refl _))
            have HB9 := Lib.hid (HB8.out.trans (((drew_bel w8).trans hb9).mono HB8.out.size))
            have hf9' := (HR8.out.later ((drew_bel w8).trans hb9)).mat.own.frozenAt i2
            clear c0 y0 y1 y2 hb9 hg9 hf9 hf8
            obtain ⟨c0, ⟨y0, y1, y2⟩, _⟩ := HCE.out _ HB9.out
            try go_wp2_with fail
            refine hK.out _ _ ?_ (fun hHeld => ?_)
            · (try dsimp only); go_keep
            clear hK K
            try simp only [zR]
            refine tk (i := 15) (h := ?_)
            try simp only [zR]
            refine tr [16] ?_
            refine tc (h := fun K hK => ?_) (hs := tn)
            try go_simp
            try go_wp2_with fail
            refine hK.out _ _ ?_ (fun hHeld => ?_)
            · (try dsimp only); go_keep
            clear hK K
            try simp only [zR]
            refine wpAnyH_done (by kernel_rfl) ?_ _
            clear c0 y0 y1 y2
            go_wp2
            go_roundw
            case rel => exact ⟨i2 + 1, _, by omega, by go_num, HS⟩
            case measure => simp [intOf]; omega
           ·
            skip
            try go_simp
            try go_wp2_with fail
            refine hK.out _ _ ?_ (fun hHeld => ?_)
            · (try dsimp only); go_keep
            clear hK K
            try simp only [zR]
            refine tk (i := 12) (h := ?_)
            try simp only [zR]
            refine tk (i := 13) (h := ?_)
            try simp only [zR]
            refine tr [5] ?_
            refine tc (h := fun K hK => ?_) (hs := tn)
            try go_simp
            try go_wp2_with fail
            refine hK.out _ _ ?_ (fun hHeld => ?_)
            · (try dsimp only); go_keep
            clear hK K
            try simp only [zR]
            refine tr [14] ?_
            refine tc (h := fun K hK => ?_) (hs := tn)
            try go_simp
            go_at_call 84
            refine (rLess_c (some ⟨rb, ro, none⟩) (some ⟨ba, 0, none⟩) j r'.c c4 r'.l l' r.f (tms fa (1 / fa k)) y (r.f k) 28500000000 _ (HVR.out _ (HB8.out.trans ((drew_bel w8).mono HB8.out.size))).1.nums (HVR.out _ (HB8.out.trans ((drew_bel w8).mono HB8.out.size))).2.nums (HVR.out _ (HB8.out.trans ((drew_bel w8).mono HB8.out.size))).1.rd (HVR.out _ (HB8.out.trans ((drew_bel w8).mono HB8.out.size))).2.rd (HCE.out _ (HB8.out.trans ((drew_bel w8).mono HB8.out.size))).2.2 (by have := HN.out; omega) (HSZ.out r (List.mem_of_getElem? HRR.out))).mono ?_
            rintro ee w9 ⟨A9, c9, l9, rfl, ⟨hg9, hf9⟩, hb9⟩
            have HS := Lib.hid (HR8.out.put HRR.out ((drew_bel w8).trans hb9) hg9 hf9 (Nat.le_refl _))
            have HB9 := Lib.hid (HB8.out.trans (((drew_bel w8).trans hb9).mono HB8.out.size))
            have hf9' := (HR8.out.later ((drew_bel w8).trans hb9)).mat.own.frozenAt i2
            clear c0 y0 y1 y2 hb9 hg9 hf9 hf8
            obtain ⟨c0, ⟨y0, y1, y2⟩, _⟩ := HCE.out _ HB9.out
            try go_wp2_with fail
            refine hK.out _ _ ?_ (fun hHeld => ?_)
            · (try dsimp only); go_keep
            clear hK K
            try simp only [zR]
            refine tk (i := 15) (h := ?_)
            try simp only [zR]
            refine tr [16] ?_
            refine tc (h := fun K hK => ?_) (hs := tn)
            try go_simp
            try go_wp2_with fail
            refine hK.out _ _ ?_ (fun hHeld => ?_)
            · (try dsimp only); go_keep
            clear hK K
            try simp only [zR]
            refine wpAnyH_done (by kernel_rfl) ?_ _
            clear c0 y0 y1 y2
            go_wp2
            go_roundw
            case rel => exact ⟨i2 + 1, _, by omega, by go_num, HS⟩
            case measure => simp [intOf]; omega
         ·
          obtain rfl : i2 = p := by omega
          have i21 : ¬ (i2 : Int) < (i2 : Int) := by omega
          have HAB : Hid (Below wr.heap.size wr (wr.alloc (.cells #[.slice (some ⟨ba, 0, none⟩) j c4] 29))) := (Below.refl _ _).alloc (Nat.le_refl _) _
          have HA1 := Lib.hid (HR.out.later HAB.out)
          have HA2 : Hid ((wr.alloc (.cells #[.slice (some ⟨ba, 0, none⟩) j c4] 29)).cell? ⟨wr.heap.size, 0, none⟩ = some (.slice (some ⟨ba, 0, none⟩) j c4)) := by
           show _ = _
           rw [World.cell?_alloc_at _ _ _ _ rfl]; rfl
          have HA3 : Hid (i2 + 1 ≤ 2000000) := by show _ ≤ _; have := HPN.out; omega
          go_wp2_with (at_builtin; refine wpm_append (r := ⟨some ⟨ba, 0, none⟩, c4, l', tms fa (1 / fa k)⟩) rfl _ _ rfl rfl rfl HA1.out.mat HA2.out HA1.out.row HA3.out HA1.out.below.size ?_)
          intro A9 c9 w9 hm9 hg9 _
          have hw9 := below_grown HA1.out.below hg9 (fun ad e => (HA1.out.mat.lt ad e).1) HA1.out.below.size
          have HE := Lib.hid (SolR.done HI.out.2 HI.out.1 HA1.out rfl HX.out.1 HOK.out HFA.out HK.out hkn2 hm9 hw9)
          clear hm9 hg9 hw9
          go_wp2
          go_roundw
          case rel => exact ⟨i + 1, A9, c9, i2 + 1, R' ++ [⟨some ⟨ba, 0, none⟩, c4, l', tms fa (1 / fa k)⟩], b, by omega, rfl, rfl, by go_num, HE⟩
          case measure => simp [intOf]; omega
  ·
   have him : i = m := by omega
   subst him
   have i1 : ¬ (i : Int) < (i : Int) := by omega
   go_wp2
   have hb := HI.out.1
   go_ret2
   exact ⟨B, d, p, by rw [← hb]; rfl, R, HI.out.2⟩
end Go.Proofs.YtgffkaconhonlaaGreat
