/-
  The program's eliminations: 1, whole numbers.
  A number that goes into two.
-/
import Derived.Test.YtgffkaconhonlaaGreatWStn
import Derived.Test.YtgffkaconhonlaaGreatWMRb
import Derived.Test.YtgffkaconhonlaaGreatWMAa
import Derived.Deep.Cut
import Derived.Test.YtgffkaconhonlaaGreatWRgn
namespace Go.Proofs.YtgffkaconhonlaaGreat
set_option maxRecDepth 20000
open Go.RowKit
theorem one_sz : Sz ((1 : Int) : Rat) 1 := by
 have := Sz.lit (x := 1) (y := 1) (s := false) (by omega) (by omega)
 rw [rn_int] at this
 simpa using this
structure OneAt (W wx : World) (X : Nat) (z : Rv) (q : Rat) : Prop where
 cell : C3 wx X (.bool z.s) (.slice z.A z.n z.c) (.slice z.B z.m z.d)
 below : Below W.heap.size W wx
 lo : W.heap.size ≤ X
 num : Rt wx W.heap.size z q
theorem OneAt.new {W w7 : World} {z : Rv} {q : Rat} {lo : Nat} (hb : Below W.heap.size W w7) (hz : Rt w7 lo z q) (hl : W.heap.size ≤ lo) : OneAt W (w7.alloc (.cells #[.bool z.s, .slice z.A z.n z.c, .slice z.B z.m z.d] 26)) w7.heap.size z q :=
 ⟨C3.new w7 (.bool z.s) (.slice z.A z.n z.c) (.slice z.B z.m z.d), hb.alloc hb.size _, hb.size, (hz.below ((Below.refl _ _).alloc (Nat.le_refl _) _)).lower hl⟩
theorem OneAt.put {W w7 : World} {X lo : Nat} {z : Rv} {q : Rat} (hk : C3 w7 X (.bool false) (.slice none 0 0) (.slice none 0 0)) (hX : W.heap.size ≤ X) (hl : X < lo) (hb : Below W.heap.size W w7) (hz : Rt w7 lo z q) : OneAt W (put3 w7 X (.bool z.s) (.slice z.A z.n z.c) (.slice z.B z.m z.d)) X z q :=
 ⟨hk.put _ _ _, hb.trans (put3_below hX _ _ _), hX, (hz.put hl _ _ _).lower (by omega)⟩
theorem one_al {W w6 : World} (h : Below (W.alloc (.cells #[.bool false, .slice none 0 0, .slice none 0 0] 26)).drew.heap.size (W.alloc (.cells #[.bool false, .slice none 0 0, .slice none 0 0] 26)).drew w6) : Below W.heap.size W w6 ∧ C3 w6 W.heap.size (.bool false) (.slice none 0 0) (.slice none 0 0) ∧ W.heap.size < w6.heap.size := by
 have h0 : Below W.heap.size W (W.alloc (.cells #[.bool false, .slice none 0 0, .slice none 0 0] 26)).drew := ((Below.refl _ _).alloc (Nat.le_refl _) _).drew
 have k0 : C3 (W.alloc (.cells #[.bool false, .slice none 0 0, .slice none 0 0] 26)).drew W.heap.size (.bool false) (.slice none 0 0) (.slice none 0 0) := C3.new W (.bool false) (.slice none 0 0) (.slice none 0 0)
 have k1 := k0.below h
 exact ⟨h0.trans (h.mono h0.size), k1, k1.lt⟩
theorem one_al2 {W w6 w7 : World} (h : Below W.heap.size W w6 ∧ C3 w6 W.heap.size (.bool false) (.slice none 0 0) (.slice none 0 0) ∧ W.heap.size < w6.heap.size) (hb : Below w6.heap.size w6 w7) : Below W.heap.size W w7 ∧ C3 w7 W.heap.size (.bool false) (.slice none 0 0) (.slice none 0 0) :=
 ⟨h.1.trans (hb.mono h.1.size), h.2.1.below hb⟩
theorem one_al3 {W w6 w7 : World} (h : Below W.heap.size W w6) (hb : Below (w6.alloc (.cells #[.bool false, .slice none 0 0, .slice none 0 0] 26)).heap.size (w6.alloc (.cells #[.bool false, .slice none 0 0, .slice none 0 0] 26)) w7) : Below W.heap.size W w7 ∧ C3 w7 w6.heap.size (.bool false) (.slice none 0 0) (.slice none 0 0) := by
 have h0 : Below w6.heap.size w6 (w6.alloc (.cells #[.bool false, .slice none 0 0, .slice none 0 0] 26)) := (Below.refl _ _).alloc (Nat.le_refl _) _
 exact ⟨(h.trans (h0.mono h.size)).trans (hb.mono (Nat.le_trans h.size h0.size)), (C3.new w6 (.bool false) (.slice none 0 0) (.slice none 0 0)).below hb⟩
theorem OneAt.under {W wx w2 : World} {X : Nat} {z : Rv} {q : Rat} (h : OneAt W wx X z q) (hb : Below wx.heap.size wx w2) : OneAt W w2 X z q :=
 ⟨h.cell.below hb, h.below.trans (hb.mono h.below.size), h.lo, h.num.below hb⟩
theorem num_one : ((1 : Int) : Rat).num.natAbs = 1 := rfl
set_option maxHeartbeats 1600000 in
theorem one_c (w : World) : Calls Tryz.prog 102 #[] w fun e w' => ∃ (A : Option Addr) (n c : Nat), e = .returned (.slice A n c) ∧ n ≤ c ∧ n ≤ 2 ∧ Row w' w.heap.size A n (lim 1) ∧ Below w.heap.size w w' := by
 go_enter Tryz.func102, Tryz.ntmps102
 go_wp2_with fail
 refine (Int_any 1 _ (by omega)).mono ?_
 rintro e w1 ⟨z, rfl, hz, hb⟩
 have HZ := Lib.hid (And.intro hz hb)
 clear hz hb
 have hfd : ∀ w : World, (Instr.field 26 (.agg #[.bool z.s, .slice z.A z.n z.c, .slice z.B z.m z.d]) 1).run Tryz.prog w = .ok (.slice z.A z.n z.c) w := fun _ => by kernel_rfl
 go_wp2
 go_ret
 refine ⟨z.A, z.n, z.c, rfl, HZ.out.1.numCap, ?_, ?_, HZ.out.2⟩
 · have := (HZ.out.1.rw one_sz).numLe; omega
 · have := HZ.out.1.num; rw [num_one] at this; exact this
theorem rn_whole (s : Bool) (x : Nat) : rn s x 1 = ((if s then -(x : Int) else (x : Int) : Int) : Rat) := rn_int s x
theorem val_lim1 : val (lim 1) = 1 := val_lim 1
set_option maxHeartbeats 1600000 in
theorem whole_c (B : Option Addr) (m d x : Nat) (b : List Nat) (w : World) (hb : Row w 0 B m b) (hx : val b = x) (hm : m ≤ 60000000000) (hd : m ≤ d) :
  Calls Tryz.prog 101 #[.slice B m d] w fun e w' => ∃ z : Rv, e = .returned (.agg #[.bool z.s, .slice z.A z.n z.c, .slice z.B z.m z.d]) ∧ Rt w' w.heap.size z ((x : Int) : Rat) ∧ Below w.heap.size w w' := by
 have HB := Lib.hid hb
 have HX := Lib.hid hx
 have kz := C3.new w (.bool false) (.slice none 0 0) (.slice none 0 0)
 have hB : Below w.heap.size w (w.alloc (.cells #[.bool false, .slice none 0 0, .slice none 0 0] 26)) := (Below.refl _ _).alloc (Nat.le_refl _) _
 have hs : w.heap.size + 1 ≤ (w.alloc (.cells #[.bool false, .slice none 0 0, .slice none 0 0] 26)).heap.size := by simp
 clear hb hx
 go_enter Tryz.func101, Tryz.ntmps101
 go_wp2_with fail
 generalize w.alloc (.cells #[.bool false, .slice none 0 0, .slice none 0 0] 26) = W at *
 have HW := Lib.hid (And.intro kz (And.intro hB hs))
 clear kz hB hs
 refine (one_c _).mono ?_
 rintro e w1 ⟨A, n, c, rfl, hnc, hn2, hA, hb1⟩
 have H1 := Lib.hid (And.intro hA hb1)
 clear hA hb1
 go_wp2_with fail
 refine (Of_nums false B A m n d c x 1 b (lim 1) (((x : Int)) : Rat) _ HX.out val_lim1 (by omega) (by omega) hd hnc (HB.out.below (HW.out.2.1.trans (H1.out.2.mono HW.out.2.1.size))) (H1.out.1.lower (Nat.zero_le _)) (by rw [rn_whole]; rfl)).mono ?_
 rintro e w2 ⟨z, rfl, hz, hb2⟩
 have k2 := (HW.out.1.below H1.out.2).below hb2
 have H2 : Hid (Rt w2 W.heap.size z (((x : Int)) : Rat) ∧ Below w.heap.size w w2) := ⟨hz.lower H1.out.2.size, (HW.out.2.1.trans (H1.out.2.mono HW.out.2.1.size)).trans (hb2.mono (Nat.le_trans HW.out.2.1.size H1.out.2.size))⟩
 obtain ⟨z0, z1, z2, t0, t1, t2⟩ := k2.facts
 clear hz hb2
 go_wp2
 refine ret3 (fn := Tryz.f101) Tryz.results101 rfl rfl k2 ?_
 exact ⟨z, rfl, (H2.out.1.put (by have := HW.out.2.2; omega) _ _ _).lower (by have := HW.out.2.1.size; omega), H2.out.2.trans (put3_below (Nat.le_refl _) _ _ _)⟩
theorem whole_den (v : Rv) (r : Rat) (lo p : Nat) (w : World) (h : Rt w lo v r) (hz : Sz r p) (hp : p ≤ 60000000000) :
  Calls Tryz.prog 101 #[.slice v.B v.m v.d] w fun e w' => ∃ z : Rv, e = .returned (.agg #[.bool z.s, .slice z.A z.n z.c, .slice z.B z.m z.d]) ∧ Rt w' w.heap.size z (dd r) ∧ Below w.heap.size w w' :=
 whole_c v.B v.m v.d r.den (lim r.den) w (h.den.lower (Nat.zero_le _)) (val_lim _) (by have := (h.rw hz).denLe; omega) h.denCap
end Go.Proofs.YtgffkaconhonlaaGreat

namespace Go.Proofs.YtgffkaconhonlaaGreat
set_option maxRecDepth 20000
open Go.RowKit
set_option maxHeartbeats 6400000 in
theorem common_c (va vb : Rv) (a b : Rat) (p : Nat) (w : World) (ha : Rw w va a p) (hb : Rw w vb b p) (h0 : a ≠ 0) (h1 : Sz (b / a) p) (h2 : Sz (dd (b / a)) p) (hp : p ≤ 10000000000) :
  Calls Tryz.prog 117 #[.agg #[.bool va.s, .slice va.A va.n va.c, .slice va.B va.m va.d], .agg #[.bool vb.s, .slice vb.A vb.n vb.c, .slice vb.B vb.m vb.d]] w fun e w' => ∃ z : Rv, e = .returned (.agg #[.bool z.s, .slice z.A z.n z.c, .slice z.B z.m z.d]) ∧ Rt w' w.heap.size z (com a b) ∧ Below w.heap.size w w' := by
 go_enter Tryz.func117, Tryz.ntmps117
 go_wp2_with fail
 generalize hW : (((w.alloc (.cells #[.bool va.s, .slice va.A va.n va.c, .slice va.B va.m va.d] 26)).alloc (.cells #[.bool vb.s, .slice vb.A vb.n vb.c, .slice vb.B vb.m vb.d] 26)).alloc (.cells #[.bool false, .slice none 0 0, .slice none 0 0] 26)) = W
 obtain ⟨ka, kb, kz, HW, hsW⟩ := open2z w va vb W hW
 clear hW
 have HA := Lib.hid (ha.below HW)
 have HB := Lib.hid (hb.below HW)
 have HK := Lib.hid (And.intro ka (And.intro kz (And.intro HW hsW)))
 obtain ⟨a0, a1, a2, _, _, _⟩ := ka.facts
 obtain ⟨b0, b1, b2, _, _, _⟩ := kb.facts
 clear ha hb ka kb kz HW hsW
 try go_wp2_with fail
 refine (Div_c vb va b a _ (HB.out.more (by omega)) (HA.out.more (by omega)) h0).mono ?_
 rintro e w1 ⟨z, rfl, hz, hb1⟩
 have H1 := Lib.hid (And.intro hz hb1)
 have H0 := Lib.hid h0
 clear a0 a1 a2 b0 b1 b2 hz hb1 h0
 go_upto_region 2 with fail
 have HO := Lib.hid (OneAt.new (W := W) H1.out.2 H1.out.1 (Nat.le_refl _))
 have HXX : Hid (w.heap.size < w1.heap.size) := by show _ < _; have := H1.out.2.size; have := HK.out.2.2.2; omega
 clear H1 HB
 generalize w1.heap.size = X at *
 generalize w1.alloc (.cells #[.bool z.s, .slice z.A z.n z.c, .slice z.B z.m z.d] 26) = W2 at *
 have HALL : Hid (∀ w', Below W2.heap.size W2 w' → (w'.cell? ⟨w.heap.size, 0, none⟩ = some (.bool va.s) ∧ w'.cell? ⟨w.heap.size, 1, none⟩ = some (.slice va.A va.n va.c) ∧ w'.cell? ⟨w.heap.size, 2, none⟩ = some (.slice va.B va.m va.d) ∧ w'.frozen? ⟨w.heap.size, 0, none⟩ = false ∧ w'.frozen? ⟨w.heap.size, 1, none⟩ = false ∧ w'.frozen? ⟨w.heap.size, 2, none⟩ = false) ∧ (w'.cell? ⟨X, 0, none⟩ = some (.bool z.s) ∧ w'.cell? ⟨X, 1, none⟩ = some (.slice z.A z.n z.c) ∧ w'.cell? ⟨X, 2, none⟩ = some (.slice z.B z.m z.d) ∧ w'.frozen? ⟨X, 0, none⟩ = false ∧ w'.frozen? ⟨X, 1, none⟩ = false ∧ w'.frozen? ⟨X, 2, none⟩ = false)) := fun w' h => ⟨((HK.out.1.below HO.out.below).below h).facts, (HO.out.cell.below h).facts⟩
 have HLT : Hid (w.heap.size < W2.heap.size) := by show _ < _; have := HO.out.below.size; have := HK.out.2.2.2; omega
 have HXL : Hid (X < W2.heap.size) := HO.out.cell.lt
 have HRT : Hid (∀ w', Below W2.heap.size W2 w' → Rt w' W.heap.size z (b / a)) := fun w' h => HO.out.num.below h
 have HVA : Hid (∀ w', Below W2.heap.size W2 w' → Rw w' va a p) := fun w' h => (HA.out.below HO.out.below).below h
 obtain ⟨⟨a0, a1, a2, _, _, _⟩, ⟨_, _, x2, _, _, _⟩⟩ := HALL.out _ (Below.refl _ _)
 go_cut [7] from 15 (fun xv wx => ∃ (Y : Nat) (u : Rv), xv = .pointer (some ⟨Y, 0, none⟩) ∧ Hid (OneAt W2 wx Y u (com a b)))
 case first =>
  refine wp_region_held_drew (S := fun w' => w'.cell? ⟨w.heap.size, 0, none⟩ = some (.bool va.s) ∧ w'.cell? ⟨w.heap.size, 1, none⟩ = some (.slice va.A va.n va.c) ∧ w'.cell? ⟨w.heap.size, 2, none⟩ = some (.slice va.B va.m va.d) ∧ w'.cell? ⟨X, 2, none⟩ = some (.slice z.B z.m z.d)) (by kernel_rfl) ?_ (fun hHeld => ?_)
  ·
   (try dsimp only)
   go_keep
  refine tk (i := 0) (h := ?_)
  try simp only [zR]
  refine tk (i := 1) (h := ?_)
  try simp only [zR]
  refine tk (i := 2) (h := ?_)
  try simp only [zR]
  refine tr [3, 8] ?_
  refine tc (h := fun K hK => ?_) (hs := tc (h := fun K hK => ?_) (hs := tn))
  ·
   skip
   try go_simp
   go_at_call 101
   refine (whole_den z (b / a) _ p _ (HRT.out _ (bel1 W2)) h1 (by omega)).mono ?_
   rintro e w5 ⟨d5, rfl, hd5, hb⟩
   have HD5 := Lib.hid (hd5.rw h2)
   clear hd5
   have Hw5 := Lib.hid ((bel1 W2).trans hb)
   clear hb
   clear a0 a1 a2 x2
   obtain ⟨⟨a0, a1, a2, _, _, _⟩, ⟨_, _, x2, _, _, _⟩⟩ := HALL.out _ Hw5.out
   try go_wp2_with fail
   refine hK.out _ _ ?_ (fun hHeld => ?_)
   · (try dsimp only); go_keep
   clear hK K
   try simp only [zR]
   refine tr [4, 8] ?_
   refine tc (h := fun K hK => ?_) (hs := tc (h := fun K hK => ?_) (hs := tn))
   ·
    skip
    try go_simp
    go_at_call 42
    refine (Div_c va d5 a (dd (b / a)) _ ((HVA.out _ Hw5.out).more (by omega)) (Rw.more (HD5.out) (by omega)) (dd_ne _)).mono ?_
    rintro e w6 ⟨u, rfl, hu, hb⟩
    have Hu := Lib.hid hu
    have HLw6 := Lib.hid (Hw5.out.size)
    clear hu
    have Hw6 := Lib.hid (Hw5.out.trans (hb.mono Hw5.out.size))
    clear hb
    clear a0 a1 a2 x2
    obtain ⟨⟨a0, a1, a2, _, _, _⟩, ⟨_, _, x2, _, _, _⟩⟩ := HALL.out _ Hw6.out
    have m0a : ¬ w.heap.size = w6.heap.size := by have := HLT.out; have := Hw6.out.size; omega
    have m0b : ¬ w6.heap.size = w.heap.size := fun e => m0a e.symm
    have m1a : ¬ X = w6.heap.size := by have := HXL.out; have := Hw6.out.size; omega
    have m1b : ¬ w6.heap.size = X := fun e => m1a e.symm
    try go_wp2_with fail
    refine hK.out _ _ ?_ (fun hHeld => ?_)
    · (try dsimp only); go_keep
    clear hK K
    try simp only [zR]
    refine tk (i := 5) (h := ?_)
    try simp only [zR]
    refine tk (i := 6) (h := ?_)
    try simp only [zR]
    refine tk (i := 7) (h := ?_)
    try simp only [zR]
    refine tr [8] ?_
    refine tc (h := fun K hK => ?_) (hs := tn)
    try go_simp
    try go_wp2_with fail
    refine hK.out _ _ ?_ (fun hHeld => ?_)
    · (try dsimp only); go_keep
    clear hK K
    try simp only [zR]
    refine tr [9] ?_
    refine tc (h := fun K hK => ?_) (hs := tn)
    try go_simp
    try go_wp2_with fail
    refine hK.out _ _ ?_ (fun hHeld => ?_)
    · (try dsimp only); go_keep
    clear hK K
    try simp only [zR]
    refine tk (i := 10) (h := ?_)
    try simp only [zR]
    refine wpAnyH_done (by kernel_rfl) ?_ _
    go_wp2_with fail
    go_meet
    exact ⟨_, u, rfl, Lib.hid (OneAt.new Hw6.out Hu.out HLw6.out)⟩
   ·
    skip
    try go_simp
    try go_wp2_with fail
    refine hK.out _ _ ?_ (fun hHeld => ?_)
    · (try dsimp only); go_keep
    clear hK K
    try simp only [zR]
    refine tr [4] ?_
    refine tc (h := fun K hK => ?_) (hs := tn)
    try go_simp
    go_at_call 42
    refine (Div_c va d5 a (dd (b / a)) _ ((HVA.out _ (Hw5.out.alloc Hw5.out.size (.cells #[.bool false, .slice none 0 0, .slice none 0 0] 26))).more (by omega)) (Rw.more (HD5.out.alloc (.cells #[.bool false, .slice none 0 0, .slice none 0 0] 26)) (by omega)) (dd_ne _)).mono ?_
    rintro e w6 ⟨u, rfl, hu, hb⟩
    have Hu := Lib.hid hu
    have HLw6 := Lib.hid ((by simp : w5.heap.size < (w5.alloc (.cells #[.bool false, .slice none 0 0, .slice none 0 0] 26)).heap.size))
    clear hu
    have Hw6 := Lib.hid (one_al3 Hw5.out hb)
    have HXw6 := Lib.hid (And.intro Hw5.out.size hb.size)
    clear hb
    clear a0 a1 a2 x2
    obtain ⟨⟨a0, a1, a2, _, _, _⟩, ⟨_, _, x2, _, _, _⟩⟩ := HALL.out _ Hw6.out.1
    obtain ⟨q0, q1, q2, t0, t1, t2⟩ := Hw6.out.2.facts
    have m0a : ¬ w.heap.size = w5.heap.size := by have := HLT.out; have := HXw6.out.1; omega
    have m0b : ¬ w5.heap.size = w.heap.size := fun e => m0a e.symm
    have m1a : ¬ X = w5.heap.size := by have := HXL.out; have := HXw6.out.1; omega
    have m1b : ¬ w5.heap.size = X := fun e => m1a e.symm
    try go_wp2_with fail
    refine hK.out _ _ ?_ (fun hHeld => ?_)
    · (try dsimp only); go_keep
    clear hK K
    try simp only [zR]
    refine tk (i := 5) (h := ?_)
    try simp only [zR]
    refine tk (i := 6) (h := ?_)
    try simp only [zR]
    refine tk (i := 7) (h := ?_)
    try simp only [zR]
    refine tr [9] ?_
    refine tc (h := fun K hK => ?_) (hs := tn)
    try go_simp
    try go_wp2_with fail
    refine hK.out _ _ ?_ (fun hHeld => ?_)
    · (try dsimp only); go_keep
    clear hK K
    try simp only [zR]
    refine tk (i := 10) (h := ?_)
    try simp only [zR]
    refine wpAnyH_done (by kernel_rfl) ?_ _
    go_wp2_with fail
    go_meet
    exact ⟨_, u, rfl, Lib.hid (OneAt.put Hw6.out.2 HXw6.out.1 HLw6.out Hw6.out.1 Hu.out)⟩
  ·
   skip
   try go_simp
   try go_wp2_with fail
   refine hK.out _ _ ?_ (fun hHeld => ?_)
   · (try dsimp only); go_keep
   clear hK K
   try simp only [zR]
   refine tr [3] ?_
   refine tc (h := fun K hK => ?_) (hs := tn)
   try go_simp
   go_at_call 101
   refine (whole_den z (b / a) _ p _ (HRT.out _ (((Below.refl _ _).alloc (Nat.le_refl _) _).drew)) h1 (by omega)).mono ?_
   rintro e w5 ⟨d5, rfl, hd5, hb⟩
   have HD5 := Lib.hid (hd5.rw h2)
   clear hd5
   have Hw5 := Lib.hid (one_al hb)
   clear hb
   clear a0 a1 a2 x2
   obtain ⟨⟨a0, a1, a2, _, _, _⟩, ⟨_, _, x2, _, _, _⟩⟩ := HALL.out _ Hw5.out.1
   try go_wp2_with fail
   refine hK.out _ _ ?_ (fun hHeld => ?_)
   · (try dsimp only); go_keep
   clear hK K
   try simp only [zR]
   refine tr [4] ?_
   refine tc (h := fun K hK => ?_) (hs := tn)
   try go_simp
   go_at_call 42
   refine (Div_c va d5 a (dd (b / a)) _ ((HVA.out _ Hw5.out.1).more (by omega)) (Rw.more (HD5.out) (by omega)) (dd_ne _)).mono ?_
   rintro e w6 ⟨u, rfl, hu, hb⟩
   have Hu := Lib.hid hu
   have HLw6 := Lib.hid (Hw5.out.2.2)
   clear hu
   have Hw6 := Lib.hid (one_al2 Hw5.out hb)
   clear hb
   clear a0 a1 a2 x2
   obtain ⟨⟨a0, a1, a2, _, _, _⟩, ⟨_, _, x2, _, _, _⟩⟩ := HALL.out _ Hw6.out.1
   obtain ⟨q0, q1, q2, t0, t1, t2⟩ := Hw6.out.2.facts
   have m0a : ¬ w.heap.size = W2.heap.size := by have := HLT.out; omega
   have m0b : ¬ W2.heap.size = w.heap.size := fun e => m0a e.symm
   have m1a : ¬ X = W2.heap.size := by have := HXL.out; omega
   have m1b : ¬ W2.heap.size = X := fun e => m1a e.symm
   try go_wp2_with fail
   refine hK.out _ _ ?_ (fun hHeld => ?_)
   · (try dsimp only); go_keep
   clear hK K
   try simp only [zR]
   refine tk (i := 5) (h := ?_)
   try simp only [zR]
   refine tk (i := 6) (h := ?_)
   try simp only [zR]
   refine tk (i := 7) (h := ?_)
   try simp only [zR]
   refine tr [9] ?_
   refine tc (h := fun K hK => ?_) (hs := tn)
   try go_simp
   try go_wp2_with fail
   refine hK.out _ _ ?_ (fun hHeld => ?_)
   · (try dsimp only); go_keep
   clear hK K
   try simp only [zR]
   refine tk (i := 10) (h := ?_)
   try simp only [zR]
   refine wpAnyH_done (by kernel_rfl) ?_ _
   go_wp2_with fail
   go_meet
   exact ⟨_, u, rfl, Lib.hid (OneAt.put (Hw6.out.2) (Nat.le_refl _) HLw6.out Hw6.out.1 Hu.out)⟩
 case rest =>
  obtain ⟨Y, u, rfl, HU⟩ := hcut
  have HN : Hid (W.heap.size ≤ W2.heap.size) := HO.out.below.size
  have hsz := HK.out.2.2.2
  have hne : ¬ Y = w.heap.size + 1 + 1 := by have := HU.out.lo; have := HN.out; omega
  have hne' : ¬ w.heap.size + 1 + 1 = Y := fun e => hne e.symm
  have kz2 := (HK.out.2.1.below HO.out.below).below HU.out.below
  obtain ⟨u0, u1, u2, _, _, _⟩ := HU.out.cell.facts
  obtain ⟨z0, z1, z2, t0, t1, t2⟩ := kz2.facts
  clear a0 a1 a2 x2
  go_wp2
  refine ret3 (fn := Tryz.f117) Tryz.results117 rfl rfl kz2 ?_
  refine ⟨u, rfl, (HU.out.num.put (by have := HN.out; omega) _ _ _).lower (by have := HN.out; omega), ?_⟩
  exact ((HK.out.2.2.1.trans (HO.out.below.mono (by omega))).trans (HU.out.below.mono (by have := HN.out; omega))).trans (put3_below (by omega) _ _ _)
end Go.Proofs.YtgffkaconhonlaaGreat
