/-
  The document's Scale of sums.
  Sums that a law makes by the document's Scale: they may be, as those that they are made of; they tell the same.
  Whether numbers are more than is looked at; whether terms rise.
-/
import Derived.Test.YtgffkaconhonlaaGreatVPick
import Derived.Test.YtgffkaconhonlaaGreatVMRr
import Derived.Test.YtgffkaconhonlaaGreatVAtP
import Derived.Test.YtgffkaconhonlaaGreatVCRow
import Derived.Test.YtgffkaconhonlaaGreatVRgn
import Derived.Test.YtgffkaconhonlaaGreatVSpc
import Derived.Test.YtgffkaconhonlaaGreatVRaw
import Derived.Deep.AppendLies
import Derived.BigQuiet
namespace Go.Proofs.YtgffkaconhonlaaGreat
set_option maxRecDepth 20000
open Go.RowKit
theorem Ct.of {w : World} {lo b n2 c2 : Nat} {s : Int} {A2 : Option Addr} {l2 : List Tv} {L : List (Int × Rat)} {k : Rat} {z : Rv} (hc : n2 ≤ c2) (hg : Tms w lo A2 n2 l2) (hr : RdN w lo l2 L) (hz : Rt w lo z k) (hb : b < lo) :
  Ct (put5 w b (.int .i64 s) (.slice A2 n2 c2) (.bool z.s) (.slice z.A z.n z.c) (.slice z.B z.m z.d)) lo ⟨s, A2, n2, c2, z⟩ L k :=
 ⟨hc, ⟨l2, hg.but hb (by rw [put5_size]; exact Nat.le_refl _) (put5_but _ _ _ _ _ _ _), RdN.but hb (by rw [put5_size]; exact Nat.le_refl _) (put5_but _ _ _ _ _ _ _) hr⟩, hz.but hb (by rw [put5_size]; exact Nat.le_refl _) (put5_but _ _ _ _ _ _ _)⟩
theorem Row.agree {w w' : World} {lo n : Nat} {A : Option Addr} {l : List Nat} (h : Row w lo A n l) (hs : w.heap.size ≤ w'.heap.size) (hk : ∀ g, g < w.heap.size → w'.heap[g]? = w.heap[g]?) : Row w' lo A n l := by
 refine ⟨h.len, h.l32, fun hn => ?_⟩
 obtain ⟨b', off, e, h0, h1, hc⟩ := h.mem hn
 exact ⟨b', off, e, h0, Nat.lt_of_lt_of_le h1 hs, fun j hj => (World.cell?_of_block (hk b' h1)).trans (hc j hj)⟩
theorem Rt.agree {w w' : World} {lo : Nat} {v : Rv} {r : Rat} (h : Rt w lo v r) (hs : w.heap.size ≤ w'.heap.size) (hk : ∀ g, g < w.heap.size → w'.heap[g]? = w.heap[g]?) : Rt w' lo v r :=
 ⟨h.1, h.2, h.3, h.4.agree hs hk, h.5, h.6, h.7.agree hs hk⟩
def Kept (lo X : Nat) (wx w' : World) : Prop := ∀ g, g < lo → g ≠ X → w'.heap[g]? = wx.heap[g]?
structure XAt (W wx : World) (X : Nat) (s : Int) (z : Rv) (q : Rat) : Prop where
 cell : C5 wx X (.int .i64 s) (.slice none 0 0) (.bool z.s) (.slice z.A z.n z.c) (.slice z.B z.m z.d)
 below : Below W.heap.size W wx
 lo : W.heap.size ≤ X
 lt : X < wx.heap.size
 num : ∀ w', wx.heap.size ≤ w'.heap.size → Kept wx.heap.size X wx w' → Rt w' W.heap.size z q
theorem XAt.new {W w2 : World} {s : Int} {z : Rv} {q : Rat} {lo : Nat} (hb : Below W.heap.size W w2) (hz : Rt w2 lo z q) (hlo : W.heap.size ≤ lo) :
  XAt W (w2.alloc (.cells #[.int .i64 s, .slice none 0 0, .bool z.s, .slice z.A z.n z.c, .slice z.B z.m z.d] 28)) w2.heap.size s z q := by
 have hba : Below w2.heap.size w2 (w2.alloc (.cells #[.int .i64 s, .slice none 0 0, .bool z.s, .slice z.A z.n z.c, .slice z.B z.m z.d] 28)) := (Below.refl _ _).alloc (Nat.le_refl _) _
 refine ⟨C5.new w2 _ _ _ _ _, hb.alloc hb.size _, hb.size, by simp, fun w' h1 h2 => (hz.agree (Nat.le_trans hba.size h1) fun g hg => ?_).lower hlo⟩
 exact (h2 g (Nat.lt_of_lt_of_le hg hba.size) (by omega)).trans (hba.block g hg)
theorem XAt.put {W w2 : World} {s : Int} {z : Rv} {q : Rat} {lo : Nat} (hk : C5 w2 W.heap.size (.int .i64 0) (.slice none 0 0) (.bool false) (.slice none 0 0) (.slice none 0 0)) (hlo : W.heap.size < lo) (hb : Below W.heap.size W w2) (hz : Rt w2 lo z q) :
  XAt W (put5 w2 W.heap.size (.int .i64 s) (.slice none 0 0) (.bool z.s) (.slice z.A z.n z.c) (.slice z.B z.m z.d)) W.heap.size s z q :=
 ⟨hk.put _ _ _ _ _, hb.trans (put5_below (Nat.le_refl _) _ _ _ _ _), Nat.le_refl _, by rw [put5_size]; exact hk.lt, fun w' h1 h2 => by
  rw [put5_size] at h1 h2
  exact (hz.but hlo h1 fun g hg hne => (h2 g hg hne).trans (put5_but _ _ _ _ _ _ _ g hg hne)).lower (by omega)⟩
theorem Gr.set {w : World} {lo c n b j : Nat} {A : Option Addr} {l : List Tv} {L : List (Int × Rat)} (h : Gr w lo A c n l L) (hb : b < lo) (x : Value) : Gr (w.setCell ⟨b, j, none⟩ x) lo A c n l L := by
 have hg := kput_grown w b j x
 have hsz : w.heap.size ≤ (w.setCell ⟨b, j, none⟩ x).heap.size := hg.size
 have hk : ∀ g, g < w.heap.size → g ≠ b → (w.setCell ⟨b, j, none⟩ x).heap[g]? = w.heap[g]? := fun g hg' hne => hg.block g hg' (fun e => hne (by injection e))
 have go : ∀ {l : List Tv} {L : List (Int × Rat)}, RdO w lo A l L → RdO (w.setCell ⟨b, j, none⟩ x) lo A l L := by
  intro l
  induction l with
  |
   nil => intro L h; cases L with
   | nil => trivial
   | cons _ _ => exact h.elim
  |
   cons y l ih => intro L h; cases L with
   | nil => exact h.elim
   | cons _ _ => exact ⟨⟨h.1.1, h.1.2.1, h.1.2.2.1.but hb hsz hk, h.1.2.2.2⟩, ih h.2⟩
 exact ⟨h.own.grown hg (fun ad e e2 => by have := (h.lt ad e).1; injection e2 with e2; omega), go h.rd⟩
theorem kept_below {lo X : Nat} {wx wr w' : World} (hb : Below wr.heap.size wr w') (h : lo ≤ wr.heap.size ∧ Kept lo X wx wr) : lo ≤ w'.heap.size ∧ Kept lo X wx w' :=
 ⟨Nat.le_trans h.1 hb.size, fun g h1 h2 => (hb.block g (by have := h.1; omega)).trans (h.2 g h1 h2)⟩
theorem kept_lo {lo X : Nat} {wx w3 w' : World} (h : lo ≤ w3.heap.size ∧ Kept lo X wx w3) (hb : Below lo w3 w') : lo ≤ w'.heap.size ∧ Kept lo X wx w' :=
 ⟨Nat.le_trans h.1 hb.size, fun g h1 h2 => (hb.block g h1).trans (h.2 g h1 h2)⟩
structure RSc (w wx wr : World) (X : Nat) (s : Int) (z : Rv) (r : Rat) (L : List (Int × Rat)) (i : Nat) (R : Option Addr) (p e : Nat) (ls : List Tv) (D : List (Int × Rat)) : Prop where
 cx : C5 wr X (.int .i64 s) (.slice R p e) (.bool z.s) (.slice z.A z.n z.c) (.slice z.B z.m z.d)
 gr : Gr wr wx.heap.size R e p ls D
 eq : scaleL r L = D ++ scaleL r (L.drop i)
 sz : wx.heap.size ≤ wr.heap.size ∧ Kept wx.heap.size X wx wr
 below : Below w.heap.size w wr
 lt : w.heap.size ≤ X ∧ X < wx.heap.size
 le : p ≤ i
theorem RSc.step {w wx wr w3 w4 : World} {X : Nat} {s : Int} {z : Rv} {r : Rat} {L D : List (Int × Rat)} {i p e p2 c2 : Nat} {R R2 : Option Addr} {ls ls2 : List Tv} {x : Tv} {Y : Int × Rat} (h : RSc w wx wr X s z r L i R p e ls D) (hT : L[i]? = some Y) (ex : x.v = Y.1)
  (hg : Gr w4 wx.heap.size R2 c2 p2 ls2 (D ++ lay1 x.v (Y.2 * r))) (hk : wx.heap.size ≤ w4.heap.size ∧ Kept wx.heap.size X wx w4) (h3 : Below wr.heap.size wr w3) (h4 : Below wx.heap.size w3 w4) (hp : p2 ≤ p + 1) :
  RSc w wx (w4.setCell ⟨X, 1, none⟩ (.slice R2 p2 c2)) X s z r L (i + 1) R2 p2 c2 ls2 (D ++ lay1 x.v (Y.2 * r)) := by
 have hle := h.le
 have hlt := h.lt
 have hsz := h.sz.1
 have hcx : C5 w4 X (.int .i64 s) (.slice R p e) (.bool z.s) (.slice z.A z.n z.c) (.slice z.B z.m z.d) := (h.cx.below h3).at h4 hlt.2
 have hb4 : Below w.heap.size w w4 := (h.below.trans (h3.mono h.below.size)).trans (h4.mono (by omega))
 refine ⟨hcx.set1 _, hg.set hlt.2 _, ?_, ⟨by simpa [World.setCell] using hk.1, fun g h1 h2 => ?_⟩, hb4.setCell hlt.1 _, hlt, by omega⟩
 ·
  rw [h.eq, List.append_assoc, ex]
  congr 1
  obtain ⟨hl, e⟩ := List.getElem?_eq_some_iff.1 hT
  rw [List.drop_eq_getElem_cons hl, e]
  rfl
 ·
  refine Eq.trans ?_ (hk.2 g h1 h2)
  show (w4.heap.modify X _)[g]? = _
  rw [Array.getElem?_modify, if_neg (fun e => h2 e.symm)]
set_option maxHeartbeats 12800000 in
theorem rScaleK_c (va : Cv) (u : Rv) (L : List (Int × Rat)) (k r : Rat) (w : World) (ha : Cw w va L k 900) (hu : Rw w u r 900) (hn : va.n ≤ 1000) :
  Calls Tryz.prog 27 #[.agg #[.int .i64 va.s, .slice va.A va.n va.c, .bool va.K.s, .slice va.K.A va.K.n va.K.c, .slice va.K.B va.K.m va.K.d], .agg #[.bool u.s, .slice u.A u.n u.c, .slice u.B u.m u.d]] w fun e w' => ∃ z : Cv, e = .returned (.agg #[.int .i64 z.s, .slice z.A z.n z.c, .bool z.K.s, .slice z.K.A z.K.n z.K.c, .slice z.K.B z.K.m z.K.d]) ∧ z.s = va.s ∧ z.n ≤ va.n ∧ Ct w' w.heap.size z (scaleL r L) (k * r) ∧ Below w.heap.size w w' := by
 obtain ⟨ha1, ⟨la, ha2, ha3⟩, ha4⟩ := ha
 obtain ⟨ka, ku, kz, HW, hsW⟩ := openKRz w va u _ rfl
 have N0 : (0 : Int) ≤ (va.n : Int) := by omega
 have N1 : (va.n : Int) ≤ 1000 := by omega
 go_enter Tryz.func27, Tryz.ntmps27
 go_wp2_with fail
 generalize ((w.alloc (.cells #[.int .i64 va.s, .slice va.A va.n va.c, .bool va.K.s, .slice va.K.A va.K.n va.K.c, .slice va.K.B va.K.m va.K.d] 28)).alloc (.cells #[.bool u.s, .slice u.A u.n u.c, .slice u.B u.m u.d] 26)).alloc (.cells #[.int .i64 0, .slice none 0 0, .bool false, .slice none 0 0, .slice none 0 0] 28) = W at *
 have HA1 : Hid (∀ w', Below W.heap.size W w' → Rw w' va.K k 28500000000 ∧ Rw w' u r 28500000000 ∧ C5 w' w.heap.size (.int .i64 va.s) (.slice va.A va.n va.c) (.bool va.K.s) (.slice va.K.A va.K.n va.K.c) (.slice va.K.B va.K.m va.K.d) ∧ C3 w' (w.heap.size + 1) (.bool u.s) (.slice u.A u.n u.c) (.slice u.B u.m u.d)) := fun w' h =>
  ⟨((ha4.below HW).below h).more (by omega), ((hu.below HW).below h).more (by omega), ka.below h, ku.below h⟩
 have HT0 := Lib.hid (And.intro ha2 ha3)
 have HU0 := Lib.hid hu
 have HRL := Lib.hid (And.intro ha2.len ha3.len)
 have HWW := Lib.hid (And.intro HW hsW)
 have HKZ := Lib.hid kz
 have ZU := Lib.hid (hu.sz (by omega))
 clear ha2 ha3 ha4 hu ka ku kz
 go_cut [5] from 7 to 13 (fun xv wx => ∃ (X : Nat) (z : Rv), xv = .pointer (some ⟨X, 0, none⟩) ∧ Hid (XAt W wx X va.s z (k * r)))
 case first =>
  obtain ⟨a0, a1, a2, a3, a4⟩ := (HA1.out _ (Below.refl _ _)).2.2.1.facts
  obtain ⟨u0, u1, u2, _, _, _⟩ := (HA1.out _ (Below.refl _ _)).2.2.2.facts
  have hsL : w.heap.size + 3 ≤ W.heap.size := by omega
  have m1 : ¬ w.heap.size = W.heap.size := by omega
  have m2 : ¬ W.heap.size = w.heap.size := by omega
  have m3 : ¬ w.heap.size + 1 = W.heap.size := by omega
  have m4 : ¬ W.heap.size = w.heap.size + 1 := by omega
  clear hsW
  refine wp_region_held_drew (S := fun w' => w'.cell? ⟨w.heap.size, 0, none⟩ = some (.int .i64 va.s) ∧ w'.cell? ⟨w.heap.size, 2, none⟩ = some (.bool va.K.s) ∧ w'.cell? ⟨w.heap.size, 3, none⟩ = some (.slice va.K.A va.K.n va.K.c) ∧ w'.cell? ⟨w.heap.size, 4, none⟩ = some (.slice va.K.B va.K.m va.K.d) ∧ w'.cell? ⟨w.heap.size + 1, 0, none⟩ = some (.bool u.s) ∧ w'.cell? ⟨w.heap.size + 1, 1, none⟩ = some (.slice u.A u.n u.c) ∧ w'.cell? ⟨w.heap.size + 1, 2, none⟩ = some (.slice u.B u.m u.d)) (by kernel_rfl) ?_ (fun hHeld => ?_)
  ·
   (try dsimp only)
   go_keep
  refine tk (i := 0) (h := ?_)
  try simp only [zR]
  refine tk (i := 1) (h := ?_)
  try simp only [zR]
  refine tk (i := 2) (h := ?_)
  try simp only [zR]
  refine tk (i := 3) (h := ?_)
  try simp only [zR]
  refine tk (i := 4) (h := ?_)
  try simp only [zR]
  refine tr [5, 7] ?_
  refine tc (h := fun K hK => ?_) (hs := tc (h := fun K hK => ?_) (hs := tn))
  ·
   skip
   try go_simp
   go_at_call 57
   refine (rMul_c va.K u k r _ (HA1.out _ ?_).1 (HA1.out _ ?_).2.1).mono ?_
   ·
    first
    | (with_reducible exact bel_At W)
    | (with_reducible exact ((Below.refl _ _).alloc (Nat.le_refl _) _).drew)
   ·
    first
    | (with_reducible exact bel_At W)
    | (with_reducible exact ((Below.refl _ _).alloc (Nat.le_refl _) _).drew)
   rintro ee w2 ⟨z, rfl, hz, hb⟩
   have hbW : Below W.heap.size W w2 := by
    first
    | (
      have hbq : Below W.drew.heap.size W.drew w2 := by with_reducible exact hb
      exact (bel_At W).trans hbq)
    | (
      have hbq : Below (W.alloc (.cells #[.int .i64 0, .slice none 0 0, .bool false, .slice none 0 0, .slice none 0 0] 28)).drew.heap.size (W.alloc (.cells #[.int .i64 0, .slice none 0 0, .bool false, .slice none 0 0, .slice none 0 0] 28)).drew w2 := by with_reducible exact hb
      exact (((Below.refl _ _).alloc (Nat.le_refl _) _).drew).trans (hbq.mono (by simp)))
   first
   | (
     have hbq : Below (W.alloc (.cells #[.int .i64 0, .slice none 0 0, .bool false, .slice none 0 0, .slice none 0 0] 28)).drew.heap.size (W.alloc (.cells #[.int .i64 0, .slice none 0 0, .bool false, .slice none 0 0, .slice none 0 0] 28)).drew w2 := by with_reducible exact hb
     have kl0 : C5 (W.alloc (.cells #[.int .i64 0, .slice none 0 0, .bool false, .slice none 0 0, .slice none 0 0] 28)).drew W.heap.size (.int .i64 0) (.slice none 0 0) (.bool false) (.slice none 0 0) (.slice none 0 0) := C5.new W (.int .i64 0) (.slice none 0 0) (.bool false) (.slice none 0 0) (.slice none 0 0)
     have KN := Lib.hid (And.intro (kl0.below hbq) (show W.heap.size < (W.alloc (.cells #[.int .i64 0, .slice none 0 0, .bool false, .slice none 0 0, .slice none 0 0] 28)).drew.heap.size by simp))
     clear kl0
     obtain ⟨q0, q1, q2, q3, q4⟩ := KN.out.1.facts
     obtain ⟨t0, t1, t2, t3, t4⟩ := KN.out.1.thaw
     clear hbq)
   | skip
   obtain ⟨a0, a1, a2, a3, a4⟩ := (HA1.out _ hbW).2.2.1.facts
   obtain ⟨u0, u1, u2, _, _, _⟩ := (HA1.out _ hbW).2.2.2.facts
   have HZ := Lib.hid hz
   have HW2 := Lib.hid hbW
   have hz2 := hbW.size
   have m5 : ¬ w.heap.size = w2.heap.size := by omega
   have m6 : ¬ w2.heap.size = w.heap.size := by omega
   have m7 : ¬ w.heap.size + 1 = w2.heap.size := by omega
   have m8 : ¬ w2.heap.size = w.heap.size + 1 := by omega
   clear hb hbW hz
   try go_wp2_with fail
   refine hK.out _ _ ?_ (fun hHeld => ?_)
   · (try dsimp only); go_keep
   clear hK K
   try simp only [zR]
   refine tk (i := 6) (h := ?_)
   try simp only [zR]
   refine tr [7] ?_
   refine tc (h := fun K hK => ?_) (hs := tn)
   try go_simp
   try go_wp2_with fail
   refine hK.out _ _ ?_ (fun hHeld => ?_)
   · (try dsimp only); go_keep
   clear hK K
   try simp only [zR]
   refine tr [8] ?_
   refine tc (h := fun K hK => ?_) (hs := tn)
   try go_simp
   try go_wp2_with fail
   refine hK.out _ _ ?_ (fun hHeld => ?_)
   · (try dsimp only); go_keep
   clear hK K
   try simp only [zR]
   refine wpAnyH_done (by kernel_rfl) ?_ _
   go_wp2_with fail
   go_meet
   first
   | exact ⟨_, z, rfl, Lib.hid (XAt.put KN.out.1 KN.out.2 HW2.out HZ.out)⟩
   | exact ⟨_, z, rfl, Lib.hid (XAt.new HW2.out HZ.out (show W.heap.size ≤ W.drew.heap.size from Nat.le_refl _))⟩
  ·
   skip
   try go_simp
   try go_wp2_with fail
   refine hK.out _ _ ?_ (fun hHeld => ?_)
   · (try dsimp only); go_keep
   clear hK K
   try simp only [zR]
   refine tr [5] ?_
   refine tc (h := fun K hK => ?_) (hs := tn)
   try go_simp
   go_at_call 57
   refine (rMul_c va.K u k r _ (HA1.out _ ?_).1 (HA1.out _ ?_).2.1).mono ?_
   ·
    first
    | (with_reducible exact bel_At W)
    | (with_reducible exact ((Below.refl _ _).alloc (Nat.le_refl _) _).drew)
   ·
    first
    | (with_reducible exact bel_At W)
    | (with_reducible exact ((Below.refl _ _).alloc (Nat.le_refl _) _).drew)
   rintro ee w2 ⟨z, rfl, hz, hb⟩
   have hbW : Below W.heap.size W w2 := by
    first
    | (
      have hbq : Below W.drew.heap.size W.drew w2 := by with_reducible exact hb
      exact (bel_At W).trans hbq)
    | (
      have hbq : Below (W.alloc (.cells #[.int .i64 0, .slice none 0 0, .bool false, .slice none 0 0, .slice none 0 0] 28)).drew.heap.size (W.alloc (.cells #[.int .i64 0, .slice none 0 0, .bool false, .slice none 0 0, .slice none 0 0] 28)).drew w2 := by with_reducible exact hb
      exact (((Below.refl _ _).alloc (Nat.le_refl _) _).drew).trans (hbq.mono (by simp)))
   first
   | (
     have hbq : Below (W.alloc (.cells #[.int .i64 0, .slice none 0 0, .bool false, .slice none 0 0, .slice none 0 0] 28)).drew.heap.size (W.alloc (.cells #[.int .i64 0, .slice none 0 0, .bool false, .slice none 0 0, .slice none 0 0] 28)).drew w2 := by with_reducible exact hb
     have kl0 : C5 (W.alloc (.cells #[.int .i64 0, .slice none 0 0, .bool false, .slice none 0 0, .slice none 0 0] 28)).drew W.heap.size (.int .i64 0) (.slice none 0 0) (.bool false) (.slice none 0 0) (.slice none 0 0) := C5.new W (.int .i64 0) (.slice none 0 0) (.bool false) (.slice none 0 0) (.slice none 0 0)
     have KN := Lib.hid (And.intro (kl0.below hbq) (show W.heap.size < (W.alloc (.cells #[.int .i64 0, .slice none 0 0, .bool false, .slice none 0 0, .slice none 0 0] 28)).drew.heap.size by simp))
     clear kl0
     obtain ⟨q0, q1, q2, q3, q4⟩ := KN.out.1.facts
     obtain ⟨t0, t1, t2, t3, t4⟩ := KN.out.1.thaw
     clear hbq)
   | skip
   obtain ⟨a0, a1, a2, a3, a4⟩ := (HA1.out _ hbW).2.2.1.facts
   obtain ⟨u0, u1, u2, _, _, _⟩ := (HA1.out _ hbW).2.2.2.facts
   have HZ := Lib.hid hz
   have HW2 := Lib.hid hbW
   have hz2 := hbW.size
   have m5 : ¬ w.heap.size = w2.heap.size := by omega
   have m6 : ¬ w2.heap.size = w.heap.size := by omega
   have m7 : ¬ w.heap.size + 1 = w2.heap.size := by omega
   have m8 : ¬ w2.heap.size = w.heap.size + 1 := by omega
   clear hb hbW hz
   try go_wp2_with fail
   refine hK.out _ _ ?_ (fun hHeld => ?_)
   · (try dsimp only); go_keep
   clear hK K
   try simp only [zR]
   refine tk (i := 6) (h := ?_)
   try simp only [zR]
   refine tr [8] ?_
   refine tc (h := fun K hK => ?_) (hs := tn)
   try go_simp
   try go_wp2_with fail
   refine hK.out _ _ ?_ (fun hHeld => ?_)
   · (try dsimp only); go_keep
   clear hK K
   try simp only [zR]
   refine wpAnyH_done (by kernel_rfl) ?_ _
   go_wp2_with fail
   go_meet
   first
   | exact ⟨_, z, rfl, Lib.hid (XAt.put KN.out.1 KN.out.2 HW2.out HZ.out)⟩
   | exact ⟨_, z, rfl, Lib.hid (XAt.new HW2.out HZ.out (show W.heap.size ≤ W.drew.heap.size from Nat.le_refl _))⟩
 case rest =>
  obtain ⟨X, zk, rfl, HX0⟩ := hcut
  have hXl := HX0.out.lo
  have hXt := HX0.out.lt
  have hsW' := HX0.out.below.size
  rename_i wx0
  clear hsW
  have hsW2 : w.heap.size + 3 = W.heap.size := by have := HWW.out.2; omega
  have HALL0 : Hid (∀ w', (wc.heap.size ≤ w'.heap.size ∧ Kept wc.heap.size X wc w') → C5 w' w.heap.size (.int .i64 va.s) (.slice va.A va.n va.c) (.bool va.K.s) (.slice va.K.A va.K.n va.K.c) (.slice va.K.B va.K.m va.K.d) ∧ C3 w' (w.heap.size + 1) (.bool u.s) (.slice u.A u.n u.c) (.slice u.B u.m u.d) ∧ C5 w' (w.heap.size + 1 + 1) (.int .i64 0) (.slice none 0 0) (.bool false) (.slice none 0 0) (.slice none 0 0)) := fun w' h => by
   have h0 := HA1.out _ HX0.out.below
   have hz := HKZ.out.below HX0.out.below
   exact ⟨(h.2 _ (by omega) (by omega)).trans h0.2.2.1, (h.2 _ (by omega) (by omega)).trans h0.2.2.2, (h.2 _ (by omega) (by omega)).trans hz⟩
  have HSC : Hid (RSc w wc wc X va.s zk r L 0 none 0 0 [] []) := ⟨HX0.out.cell, Gr.nil_ _ _, rfl, ⟨Nat.le_refl _, fun g _ _ => rfl⟩, HWW.out.1.trans (HX0.out.below.mono (by omega)), ⟨by omega, hXt⟩, Nat.le_refl _⟩
  go_wp2
  go_loopw [6] (fun iv wr => ∃ (i : Nat) (R : Option Addr) (p e : Nat) (ls : List Tv) (D : List (Int × Rat)), i ≤ va.n ∧ iv = .int .i64 i ∧ Hid (RSc w wc wr X va.s zk r L i R p e ls D)) (fun iv _ => va.n - (intOf iv).toNat)
  case atStart => exact ⟨0, none, 0, 0, [], [], by omega, rfl, HSC⟩
  case round =>
   clear HSC
   obtain ⟨i, R, p, e, ls, D, hi, rfl, HIN⟩ := hrel
   have hle := HIN.out.le
   have hsz := HIN.out.sz.1
   obtain ⟨a0, a1, a2, a3, a4⟩ := (HALL0.out _ HIN.out.sz).1.facts
   obtain ⟨u0, u1, u2, _, _, _⟩ := (HALL0.out _ HIN.out.sz).2.1.facts
   by_cases hlt : i < va.n
   ·
    have i0 : (0 : Int) ≤ (i : Int) := by omega
    have i1 : (i : Int) < (va.n : Int) := by omega
    obtain ⟨b, off, hvA, _, hbw, hc⟩ := HT0.out.1.mem (by omega)
    obtain ⟨x, Y, hx, hX, hxv, hxr⟩ := HT0.out.2.get i (by rw [HRL.out.1]; omega)
    have HVA := Lib.hid hvA
    have HX := Lib.hid (And.intro hX hxv)
    have HXC := Lib.hid (hc i x hx)
    have HXR := Lib.hid hxr
    have HSZ : Hid (Sz (Y.2 * r) (900 + 900)) := (hxr.sz (by omega)).mul ZU.out
    have HALL : Hid (∀ w', (wc.heap.size ≤ w'.heap.size ∧ Kept wc.heap.size X wc w') → C5 w' w.heap.size (.int .i64 va.s) (.slice va.A va.n va.c) (.bool va.K.s) (.slice va.K.A va.K.n va.K.c) (.slice va.K.B va.K.m va.K.d) ∧ C3 w' (w.heap.size + 1) (.bool u.s) (.slice u.A u.n u.c) (.slice u.B u.m u.d) ∧ At4 w' b (off + i * 4) x) := fun w' h =>
     ⟨(HALL0.out _ h).1, (HALL0.out _ h).2.1, HXC.out.keep ((h.2 b (by omega) (by omega)).trans ((HX0.out.below.block b (by omega)).trans (HWW.out.1.block b hbw)))⟩
    have HBEL : Hid (∀ w', Below wr.heap.size wr w' → C5 w' X (.int .i64 va.s) (.slice R p e) (.bool zk.s) (.slice zk.A zk.n zk.c) (.slice zk.B zk.m zk.d) ∧ Rw w' x.r Y.2 28500000000 ∧ Rw w' u r 28500000000) := fun w' h =>
     ⟨HIN.out.cx.below h, (HXR.out.below (HIN.out.below.trans (h.mono HIN.out.below.size))).more (by omega), (HU0.out.below (HIN.out.below.trans (h.mono HIN.out.below.size))).more (by omega)⟩
    rw [hvA] at a1
    clear hx hX hxv hxr hc hvA
    obtain ⟨x0, x1, x2, x3⟩ := (HALL.out _ HIN.out.sz).2.2
    obtain ⟨s0, s1, s2, s3, s4⟩ := HIN.out.cx.facts
    obtain ⟨t0, t1, t2, t3, t4⟩ := HIN.out.cx.thaw
    have n1 : ¬ w.heap.size = X := by omega
    have n2 : ¬ X = w.heap.size := by omega
    have n3 : ¬ w.heap.size + 1 = X := by omega
    have n4 : ¬ X = w.heap.size + 1 := by omega
    have n5 : ¬ b = X := by omega
    have n6 : ¬ X = b := by omega
    go_wp2_with fail
    refine wp_region_held_drew (S := fun w' => w'.cell? ⟨w.heap.size, 1, none⟩ = some (.slice (some ⟨b, off, none⟩) va.n va.c) ∧ w'.cell? ⟨w.heap.size + 1, 0, none⟩ = some (.bool u.s) ∧ w'.cell? ⟨w.heap.size + 1, 1, none⟩ = some (.slice u.A u.n u.c) ∧ w'.cell? ⟨w.heap.size + 1, 2, none⟩ = some (.slice u.B u.m u.d) ∧ w'.cell? ⟨b, off + i * 4, none⟩ = some (.int .i64 x.v) ∧ w'.cell? ⟨b, off + i * 4 + 1, none⟩ = some (.bool x.r.s) ∧ w'.cell? ⟨b, off + i * 4 + 2, none⟩ = some (.slice x.r.A x.r.n x.r.c) ∧ w'.cell? ⟨b, off + i * 4 + 3, none⟩ = some (.slice x.r.B x.r.m x.r.d)) (by kernel_rfl) ?_ (fun hHeld => ?_)
    ·
     (try dsimp only)
     go_keep
    refine tk (i := 0) (h := ?_)
    try simp only [zR]
    refine tk (i := 2) (h := ?_)
    try simp only [zR]
    refine tk (i := 3) (h := ?_)
    try simp only [zR]
    refine tk (i := 4) (h := ?_)
    try simp only [zR]
    refine tk (i := 5) (h := ?_)
    try simp only [zR]
    refine tk (i := 6) (h := ?_)
    try simp only [zR]
    refine tk (i := 7) (h := ?_)
    try simp only [zR]
    refine tk (i := 8) (h := ?_)
    try simp only [zR]
    refine tk (i := 9) (h := ?_)
    try simp only [zR]
    refine tk (i := 10) (h := ?_)
    try simp only [zR]
    refine tk (i := 11) (h := ?_)
    try simp only [zR]
    refine tk (i := 12) (h := ?_)
    try simp only [zR]
    refine tk (i := 13) (h := ?_)
    try simp only [zR]
    refine tk (i := 14) (h := ?_)
    try simp only [zR]
    refine tr [1, 15] ?_
    refine tc (h := fun K hK => ?_) (hs := tc (h := fun K hK => ?_) (hs := tn))
    ·
     skip
     try go_simp
     try go_wp2_with fail
     refine hK.out _ _ ?_ (fun hHeld => ?_)
     · (try dsimp only); go_keep
     clear hK K
     try simp only [zR]
     refine tr [15] ?_
     refine tc (h := fun K hK => ?_) (hs := tn)
     try go_simp
     go_at_call 57
     refine (rMul_c x.r u Y.2 r _ (HBEL.out _ (bel_At wr)).2.1 (HBEL.out _ (bel_At wr)).2.2).mono ?_
     rintro ee w3 ⟨y, rfl, hy, hb⟩
     have hbW := (bel_At wr).trans hb
     have hk := kept_below hbW HIN.out.sz
     clear a0 a1 a2 a3 a4 u0 u1 u2 x0 x1 x2 x3 s0 s1 s2 s3 s4 t0 t1 t2 t3 t4
     obtain ⟨a0, a1, a2, a3, a4⟩ := (HALL.out _ hk).1.facts
     rw [HVA.out] at a1
     obtain ⟨u0, u1, u2, _, _, _⟩ := (HALL.out _ hk).2.1.facts
     obtain ⟨x0, x1, x2, x3⟩ := (HALL.out _ hk).2.2
     obtain ⟨s0, s1, s2, s3, s4⟩ := ((HBEL.out _ hbW).1).facts
     obtain ⟨t0, t1, t2, t3, t4⟩ := ((HBEL.out _ hbW).1).thaw
     have HY := Lib.hid hy
     have HG3 := Lib.hid (HIN.out.gr.below hbW)
     have HW3 := Lib.hid hbW
     have hz3 : wr.heap.size ≤ w3.heap.size := hbW.size
     clear hb hbW hk hy
     try go_wp2_with fail
     refine hK.out _ _ ?_ (fun hHeld => ?_)
     · (try dsimp only); go_keep
     clear hK K
     try simp only [zR]
     refine tr [16] ?_
     refine tc (h := fun K hK => ?_) (hs := tn)
     try go_simp
     go_at_call 58
     refine (lay_c R p e wc.heap.size ls D x.v y (Y.2 * r) _ HG3.out ((HY.out.rw HSZ.out).more (by omega)) (by omega) (by omega)).mono ?_
     rintro ee w4 ⟨R2, c2, p2, ls2, rfl, hp2, hg2, hb, _, _⟩
     have hk := kept_lo (kept_below HW3.out HIN.out.sz) hb
     clear a0 a1 a2 a3 a4 u0 u1 u2 x0 x1 x2 x3 s0 s1 s2 s3 s4 t0 t1 t2 t3 t4
     obtain ⟨a0, a1, a2, a3, a4⟩ := (HALL.out _ hk).1.facts
     rw [HVA.out] at a1
     obtain ⟨u0, u1, u2, _, _, _⟩ := (HALL.out _ hk).2.1.facts
     obtain ⟨x0, x1, x2, x3⟩ := (HALL.out _ hk).2.2
     obtain ⟨s0, s1, s2, s3, s4⟩ := ((HBEL.out _ HW3.out).1.at hb HX0.out.lt).facts
     obtain ⟨t0, t1, t2, t3, t4⟩ := ((HBEL.out _ HW3.out).1.at hb HX0.out.lt).thaw
     have HG4 := Lib.hid hg2
     have HB4 := Lib.hid (And.intro hk (And.intro HW3.out hb))
     clear hb hk hg2
     try go_wp2_with fail
     refine hK.out _ _ ?_ (fun hHeld => ?_)
     · (try dsimp only); go_keep
     clear hK K
     try simp only [zR]
     refine tk (i := 17) (h := ?_)
     try simp only [zR]
     refine tr [18] ?_
     refine tc (h := fun K hK => ?_) (hs := tn)
     try go_simp
     try go_wp2_with fail
     refine hK.out _ _ ?_ (fun hHeld => ?_)
     · (try dsimp only); go_keep
     clear hK K
     try simp only [zR]
     refine wpAnyH_done (by kernel_rfl) ?_ _
     clear a0 a1 a2 a3 a4 u0 u1 u2 x0 x1 x2 x3 s0 s1 s2 s3 s4 t0 t1 t2 t3 t4
     go_wp2
     go_roundw
     case rel => exact ⟨i + 1, R2, p2, c2, ls2, _, by omega, by go_num, Lib.hid (RSc.step HIN.out HX.out.1 HX.out.2 HG4.out HB4.out.1 HB4.out.2.1 HB4.out.2.2 hp2)⟩
     case measure => simp [intOf]; omega
    ·
     skip
     try go_simp
     go_at_call 57
     refine (rMul_c x.r u Y.2 r _ (HBEL.out _ (bel_At wr)).2.1 (HBEL.out _ (bel_At wr)).2.2).mono ?_
     rintro ee w3 ⟨y, rfl, hy, hb⟩
     have hbW := (bel_At wr).trans hb
     have hk := kept_below hbW HIN.out.sz
     clear a0 a1 a2 a3 a4 u0 u1 u2 x0 x1 x2 x3 s0 s1 s2 s3 s4 t0 t1 t2 t3 t4
     obtain ⟨a0, a1, a2, a3, a4⟩ := (HALL.out _ hk).1.facts
     rw [HVA.out] at a1
     obtain ⟨u0, u1, u2, _, _, _⟩ := (HALL.out _ hk).2.1.facts
     obtain ⟨x0, x1, x2, x3⟩ := (HALL.out _ hk).2.2
     obtain ⟨s0, s1, s2, s3, s4⟩ := ((HBEL.out _ hbW).1).facts
     obtain ⟨t0, t1, t2, t3, t4⟩ := ((HBEL.out _ hbW).1).thaw
     have HY := Lib.hid hy
     have HG3 := Lib.hid (HIN.out.gr.below hbW)
     have HW3 := Lib.hid hbW
     have hz3 : wr.heap.size ≤ w3.heap.size := hbW.size
     clear hb hbW hk hy
     try go_wp2_with fail
     refine hK.out _ _ ?_ (fun hHeld => ?_)
     · (try dsimp only); go_keep
     clear hK K
     try simp only [zR]
     refine tr [1] ?_
     refine tc (h := fun K hK => ?_) (hs := tn)
     try go_simp
     try go_wp2_with fail
     refine hK.out _ _ ?_ (fun hHeld => ?_)
     · (try dsimp only); go_keep
     clear hK K
     try simp only [zR]
     refine tr [16] ?_
     refine tc (h := fun K hK => ?_) (hs := tn)
     try go_simp
     go_at_call 58
     refine (lay_c R p e wc.heap.size ls D x.v y (Y.2 * r) _ HG3.out ((HY.out.rw HSZ.out).more (by omega)) (by omega) (by omega)).mono ?_
     rintro ee w4 ⟨R2, c2, p2, ls2, rfl, hp2, hg2, hb, _, _⟩
     have hk := kept_lo (kept_below HW3.out HIN.out.sz) hb
     clear a0 a1 a2 a3 a4 u0 u1 u2 x0 x1 x2 x3 s0 s1 s2 s3 s4 t0 t1 t2 t3 t4
     obtain ⟨a0, a1, a2, a3, a4⟩ := (HALL.out _ hk).1.facts
     rw [HVA.out] at a1
     obtain ⟨u0, u1, u2, _, _, _⟩ := (HALL.out _ hk).2.1.facts
     obtain ⟨x0, x1, x2, x3⟩ := (HALL.out _ hk).2.2
     obtain ⟨s0, s1, s2, s3, s4⟩ := ((HBEL.out _ HW3.out).1.at hb HX0.out.lt).facts
     obtain ⟨t0, t1, t2, t3, t4⟩ := ((HBEL.out _ HW3.out).1.at hb HX0.out.lt).thaw
     have HG4 := Lib.hid hg2
     have HB4 := Lib.hid (And.intro hk (And.intro HW3.out hb))
     clear hb hk hg2
     try go_wp2_with fail
     refine hK.out _ _ ?_ (fun hHeld => ?_)
     · (try dsimp only); go_keep
     clear hK K
     try simp only [zR]
     refine tk (i := 17) (h := ?_)
     try simp only [zR]
     refine tr [18] ?_
     refine tc (h := fun K hK => ?_) (hs := tn)
     try go_simp
     try go_wp2_with fail
     refine hK.out _ _ ?_ (fun hHeld => ?_)
     · (try dsimp only); go_keep
     clear hK K
     try simp only [zR]
     refine wpAnyH_done (by kernel_rfl) ?_ _
     clear a0 a1 a2 a3 a4 u0 u1 u2 x0 x1 x2 x3 s0 s1 s2 s3 s4 t0 t1 t2 t3 t4
     go_wp2
     go_roundw
     case rel => exact ⟨i + 1, R2, p2, c2, ls2, _, by omega, by go_num, Lib.hid (RSc.step HIN.out HX.out.1 HX.out.2 HG4.out HB4.out.1 HB4.out.2.1 HB4.out.2.2 hp2)⟩
     case measure => simp [intOf]; omega
   ·
    have i1 : ¬ (i : Int) < (va.n : Int) := by omega
    have heq := HIN.out.eq
    rw [List.drop_eq_nil_of_le (by rw [← HRL.out.2, HRL.out.1]; omega), scaleL, List.append_nil] at heq
    have HQ := Lib.hid heq
    clear heq
    have kz := (HALL0.out _ HIN.out.sz).2.2
    have HN := Lib.hid (HX0.out.num _ HIN.out.sz.1 HIN.out.sz.2)
    obtain ⟨s0, s1, s2, s3, s4⟩ := HIN.out.cx.facts
    obtain ⟨q0, q1, q2, q3, q4⟩ := kz.facts
    obtain ⟨t0, t1, t2, t3, t4⟩ := kz.thaw
    have hne : ¬ X = w.heap.size + 1 + 1 := by omega
    have hne' : ¬ w.heap.size + 1 + 1 = X := by omega
    go_wp2
    refine ret5 (fn := Tryz.f27) Tryz.results27 rfl rfl kz ?_
    refine ⟨⟨va.s, R, p, e, zk⟩, rfl, rfl, by show p ≤ _; omega, ?_, HIN.out.below.trans (put5_below (by omega) _ _ _ _ _)⟩
    rw [HQ.out]
    exact (Ct.of HIN.out.gr.own.capLe (HIN.out.gr.own.tms.lower (show w.heap.size + 3 ≤ wc.heap.size by omega)) (RdN.lower (show w.heap.size + 3 ≤ wc.heap.size by omega) HIN.out.gr.rd.rdn) (HN.out.lower (by omega)) (by omega)).lower (by omega)
end Go.Proofs.YtgffkaconhonlaaGreat

namespace Go.Proofs.YtgffkaconhonlaaGreat
set_option maxRecDepth 20000
open Go.RowKit
theorem Rt.nrmS {w : World} {lo : Nat} {v : Rv} {r : Rat} (h : Rt w lo v r) : Nrm w v :=
 ⟨_, _, h.num.lower (Nat.zero_le _), h.den.lower (Nat.zero_le _), (IsN_iff _ _ _ h.num.l32 h.den.l32 r (by rw [val_lim, val_lim, h.sign]; exact rn_self r)).2 ⟨h.sign, rfl, rfl⟩⟩
theorem tok_new {w : World} {lo p N : Nat} : ∀ (l : List Tv) (L : List (Int × Rat)) (lo0 : Int), RdN w lo l L → SzL p L → Asc (N : Int) lo0 L → ∀ j x, l[j]? = some x → lo0 ≤ x.v ∧ x.v < (N : Int) ∧ (∀ y, 0 < j → l[j - 1]? = some y → y.v < x.v) ∧ Nrm w x.r ∧ x.r.n ≠ 0
 | [], [], _, _, _, _, j, x, hx => by simp at hx
 | [], _ :: _, _, h, _, _, _, _, _ => h.elim
 | _ :: _, [], _, h, _, _, _, _, _ => h.elim
 |
  t :: l, (v, q) :: L, lo0, h, hs, ha, j, x, hx => by
  obtain ⟨a1, a2, a3, a4⟩ := ha
  have ev : t.v = v := h.1.1
  have hr := h.1.2.rw (hs (v, q) List.mem_cons_self)
  have hn := h.1.2.nrmS
  cases j with
  |
   zero =>
   injection hx with hx; subst hx
   exact ⟨by omega, by omega, fun y h0 => absurd h0 (Nat.lt_irrefl _), hn, fun e => a3 ((zero_nrm hn hr).2 e)⟩
  |
   succ j =>
   have ih := tok_new l L (v + 1) h.2 (fun y hy => hs y (List.mem_cons_of_mem _ hy)) a4
   have hx' : l[j]? = some x := hx
   obtain ⟨g1, g2, g3, g4, g5⟩ := ih j x hx'
   refine ⟨by omega, g2, fun y _ hy => ?_, g4, g5⟩
   cases j with
   | zero => injection hy with hy; subst hy; omega
   | succ j => exact g3 y (by omega) hy
theorem Ct.kin {w : World} {lo N s : Nat} {z : Cv} {L : List (Int × Rat)} {k : Rat} (h : Ct w lo z L k) (hs : 0 ≤ z.s ∧ z.s ≤ 4) (hn : z.n ≤ 1000) (ha : Asc (N : Int) 0 L) (hL : SzL s L) (hk : Sz k s) : KinOf N s w ⟨z, L, k, true⟩ := by
 obtain ⟨h1, ⟨l, h2, h3⟩, h4⟩ := h
 have ht := tok_new l L 0 h3 hL ha
 exact ⟨h1, hn, h4.rw hk, l, h2.lower (Nat.zero_le _), h3.rds hL, ⟨fun _ => ⟨hs, h4.nrmS, fun j x _ hx => ht j x hx⟩, fun _ => rfl⟩⟩
theorem fn_scale (n : Nat) (r k : Rat) (L : List (Int × Rat)) : fn n (scaleL r L) (k * r) = tms (fn n L k) r := by
 funext j
 show (if j = n then k * r else co (scaleL r L) (j : Int)) = (if j = n then k else co L (j : Int)) * r
 split
 · rfl
 · rw [co_scale]
theorem sat_scale {n : Nat} {r : Rat} {S : List (Nat → Rat)} (hr : r ≠ 0) (x : Nat → Rat) : Sat n (S.map (tms · r)) x ↔ Sat n S x := by
 constructor
 ·
  intro h f hf
  have := h _ (List.mem_map.2 ⟨f, hf, rfl⟩)
  rw [dot_tms] at this
  rcases Rat.mul_eq_zero.1 this with h | h
  · exact h
  · exact absurd h hr
 ·
  intro h f hf
  obtain ⟨g, hg, rfl⟩ := List.mem_map.1 hf
  rw [dot_tms, h g hg, Rat.zero_mul]
theorem sp_scale {n : Nat} {r : Rat} {S : List (Nat → Rat)} (hr : r ≠ 0) : (∀ s ∈ S.map (tms · r), Sp n S s) ∧ ∀ s ∈ S, Sp n (S.map (tms · r)) s := by
 constructor
 ·
  intro f hf
  obtain ⟨g, hg, rfl⟩ := List.mem_map.1 hf
  exact (Sp.mem hg).mul r
 ·
  intro f hf
  refine ((Sp.mem (List.mem_map.2 ⟨f, hf, rfl⟩)).mul r⁻¹).congr fun j _ => ?_
  show f j = f j * r * r⁻¹
  rw [Rat.mul_assoc, Rat.mul_inv_cancel _ hr, Rat.mul_one]
theorem fix_sat {N : Nat} {S T : List (Nat → Rat)} {v : Int} {b b' : Bool} {q q' : Rat} (hs : ∀ x, Sat N T x ↔ Sat N S x)
  (h1 : b = true → (∃ x, Sat N S x) ∧ 0 ≤ v ∧ v < (N : Int) ∧ ∀ x, Sat N S x → x v.toNat = q) (h2 : b = false → q = 0 ∧ ¬ ((∃ x, Sat N S x) ∧ 0 ≤ v ∧ v < (N : Int) ∧ ∃ t, ∀ x, Sat N S x → x v.toNat = t))
  (g1 : b' = true → (∃ x, Sat N T x) ∧ 0 ≤ v ∧ v < (N : Int) ∧ ∀ x, Sat N T x → x v.toNat = q') (g2 : b' = false → q' = 0 ∧ ¬ ((∃ x, Sat N T x) ∧ 0 ≤ v ∧ v < (N : Int) ∧ ∃ t, ∀ x, Sat N T x → x v.toNat = t)) : b = b' ∧ q = q' := by
 cases b with
 |
  true =>
  obtain ⟨⟨x, hx⟩, v0, vN, hq⟩ := h1 rfl
  cases b' with
  | true => exact ⟨rfl, (hq x hx).symm.trans ((g1 rfl).2.2.2 x ((hs x).2 hx))⟩
  | false => exact absurd ⟨⟨x, (hs x).2 hx⟩, v0, vN, q, fun y hy => hq y ((hs y).1 hy)⟩ (g2 rfl).2
 |
  false =>
  cases b' with
  |
   true =>
   obtain ⟨⟨x, hx⟩, v0, vN, hq⟩ := g1 rfl
   exact absurd ⟨⟨x, (hs x).1 hx⟩, v0, vN, q', fun y hy => hq y ((hs y).2 hy)⟩ (h2 rfl).2
  | false => exact ⟨rfl, (h2 rfl).1.trans (g2 rfl).1.symm⟩
theorem cons_sat {N : Nat} {S T : List (Nat → Rat)} {b b' : Bool} (hs : ∀ x, Sat N T x ↔ Sat N S x) (h : b = true ↔ ∃ x, Sat N S x) (h' : b' = true ↔ ∃ x, Sat N T x) : b = b' := by
 have : b = true ↔ b' = true := h.trans (Iff.trans ⟨fun ⟨x, hx⟩ => ⟨x, (hs x).2 hx⟩, fun ⟨x, hx⟩ => ⟨x, (hs x).1 hx⟩⟩ h'.symm)
 cases b <;> cases b' <;> simp_all
theorem spc_append1 {w : World} {ops : Array Oper} {o : Oper} {a : Act} {K : Act → World → Prop} {Q : Exit → Act → World → Prop} {E : Prop} (hgd : o.guard = none) (s x : Operand)
  (ho : o.op = .call { callee := .builtin .append, args := #[s, x], argTypes := #[22, 22] })
  {A : Option Addr} {b lo n c c' : Nat} {l : List Cv} {t : Cv} (hs : a.eval s = .slice A n c) (hx : a.eval x = .slice (some ⟨b, 0, none⟩) 1 c')
  (h1 : OwnC w lo A c n l) (h2 : At5 w b 0 t) (hm : n + 1 ≤ 2000000) (hlo : lo ≤ w.heap.size)
  (h : ∀ A2 c2 w', OwnC w' lo A2 c2 (n + 1) (l ++ [t]) → w.grownBy w' (A.map (·.block)) → (A2.map (·.block) = A.map (·.block) ∨ A2.map (·.block) = some w.heap.size) → K (a.put o.dst (.slice A2 (n + 1) c2)) w') :
  if Region.wanted o (yielded ops a.tmps) = true then Oper.wp Tryz.prog o a w K Q else E := by
 obtain ⟨i0, hi, hsz⟩ := Option.map_eq_some_iff.1 Tryz.info28
 have hz : i0.zero = some (.agg #[.int .i64 0, .slice none 0 0, .bool false, .slice none 0 0, .slice none 0 0]) := by
  have := Tryz.zero28
  rw [hi] at this
  exact this
 injection hsz with hsz1 hsz2
 have eb : (Value.slice A n c).ownBlock = A.map (·.block) := by cases A <;> rfl
 refine step_append_lies (w := w) hgd s x _ ho lo 28 i0 _ 5 88 Tryz.underlying22 hi hz hsz1 hsz2 rfl (by omega) _ n _ hs h1.own ⟨b, 0, none⟩ 1 c' (kcells t) hx rfl ?_ ?_ (by omega) (by unfold maxLen; omega) (by omega) hlo w.heap.size rfl ?_
 ·
  intro j u hu
  have hj : j < 5 := (List.getElem?_eq_some_iff.1 hu).1
  have : j = 0 ∨ j = 1 ∨ j = 2 ∨ j = 3 ∨ j = 4 := by omega
  rcases this with rfl | rfl | rfl | rfl | rfl
  · injection hu with hu; subst hu; exact h2.h0
  · injection hu with hu; subst hu; exact h2.h1
  · injection hu with hu; subst hu; exact h2.h2
  · injection hu with hu; subst hu; exact h2.h3
  · injection hu with hu; subst hu; exact h2.h4
 ·
  intro u hu
  simp only [kcells, List.mem_cons, List.not_mem_nil, or_false] at hu
  rcases hu with rfl | rfl | rfl | rfl | rfl <;> rfl
 ·
  intro g cap w' ho' hg' hwhere _
  rw [eb] at hg' hwhere
  have e : l.flatMap kcells ++ kcells t = (l ++ [t]).flatMap kcells := by rw [List.flatMap_append, List.flatMap_singleton]
  rw [e] at ho'
  refine h _ _ w' ⟨by rw [List.length_append, h1.len]; rfl, ho'⟩ hg' ?_
  rcases hwhere with h | h
  · exact .inl h.symm
  · exact .inr (by rw [h]; rfl)
structure SRow (N : Nat) (r : Rat) (vs : List Kin) (w wr : World) (A : Option Addr) (c q i : Nat) (us : List Kin) : Prop where
 own : OwnC wr w.heap.size A c q (us.map (·.v))
 below : Below w.heap.size w wr
 kin : ∀ x ∈ us, x.ok = true ∧ ∀ w', wr.grownBy w' (A.map (·.block)) → KinOf N 160 w' x
 sums : Go.Proofs.YtgffkaconhonlaaGreat.sums N us = (Go.Proofs.YtgffkaconhonlaaGreat.sums N (vs.take i)).map (tms · r)
section
variable {N : Nat} {r : Rat} {vs : List Kin} {w wr w2 : World} {A : Option Addr} {c q i : Nat} {us : List Kin}
theorem SRow.start (w : World) : SRow N r vs w w none 0 0 0 [] := ⟨OwnC.nil_ _ _, Below.refl _ _, fun x hx => (by cases hx), rfl⟩
theorem SRow.step_ (h : SRow N r vs w wr A c q i us) (hb : Below wr.heap.size wr w2) : SRow N r vs w w2 A c q i us :=
 ⟨h.own.below hb, h.below.trans (hb.mono h.below.size), fun x hx => ⟨(h.kin x hx).1, fun w' hg => (h.kin x hx).2 w' ((grown_row hb _).trans hg)⟩, h.sums⟩
theorem SRow.kns (h : SRow N r vs w wr A c q i us) : Kns N 160 wr A q us := ⟨h.own.kons, fun x hx => (h.kin x hx).2 wr (World.grownBy.refl _ _)⟩
theorem SRow.no (h : SRow N r vs w wr A c q i us) {x : Kin} (hx : vs[i]? = some x) (ho : x.ok = false) : SRow N r vs w wr A c q (i + 1) us :=
 ⟨h.own, h.below, h.kin, by rw [h.sums, List.take_add_one, hx]; show _ = (Go.Proofs.YtgffkaconhonlaaGreat.sums N (vs.take i ++ [x])).map _; rw [sums_no ho]⟩
theorem SRow.yes {V w3 : World} {A3 : Option Addr} {c3 : Nat} {x : Kin} {z : Cv} (h : SRow N r vs w wr A c q i us) (hx : vs[i]? = some x) (ho : x.ok = true) (hV : Below wr.heap.size wr V)
  (hz : ∀ w', V.grownBy w' (A.map (·.block)) → KinOf N 160 w' ⟨z, scaleL r x.L, x.k * r, true⟩)
  (hown : OwnC w3 w.heap.size A3 c3 (q + 1) (us.map (·.v) ++ [z])) (hg : V.grownBy w3 (A.map (·.block))) (hw : A3.map (·.block) = A.map (·.block) ∨ A3.map (·.block) = some V.heap.size) :
  SRow N r vs w w3 A3 c3 (q + 1) (i + 1) (us ++ [⟨z, scaleL r x.L, x.k * r, true⟩]) := by
 have hVM := h.step_ hV
 have mv : ∀ y : Kin, (∀ w', V.grownBy w' (A.map (·.block)) → KinOf N 160 w' y) → ∀ w', w3.grownBy w' (A3.map (·.block)) → KinOf N 160 w' y := fun y hy w' h2 => by
  rcases hw with e | e
  · rw [e] at h2; exact hy _ (hg.trans h2)
  ·
   rw [e] at h2
   refine hy _ ⟨h2.os.trans hg.os, h2.tape.trans hg.tape, h2.output.trans hg.output, Nat.le_trans hg.size h2.size, fun k hk hne => ?_⟩
   have hs := hg.size
   exact (h2.block k (by omega) (by simp; omega)).trans (hg.block k hk hne)
 refine ⟨by rw [List.map_append]; exact hown, far_grown hVM.below hVM.own hg, fun y hy => ?_, ?_⟩
 ·
  rcases List.mem_append.1 hy with hy | hy
  · exact ⟨(hVM.kin y hy).1, mv y (hVM.kin y hy).2⟩
  ·
   rw [List.mem_singleton.1 hy]
   exact ⟨rfl, mv _ hz⟩
 ·
  rw [sums_yes rfl, h.sums, List.take_add_one, hx]
  show _ = (Go.Proofs.YtgffkaconhonlaaGreat.sums N (vs.take i ++ [x])).map _
  rw [sums_yes ho, List.map_append, fn_scale]
  rfl
end
theorem Ct.stays {w w' : World} {lo : Nat} {A : Option Addr} {v : Cv} {L : List (Int × Rat)} {k : Rat} (h : Ct w lo v L k) (hA : ∀ ad, A = some ad → ad.block < lo) (hg : w.grownBy w' (A.map (·.block))) : Ct w' lo v L k := by
 cases A with
 | some ad => exact h.turned (hA ad rfl) hg
 |
  none =>
  obtain ⟨h1, ⟨l, h2, h3⟩, h4⟩ := h
  have hb : Below w.heap.size w w' := ⟨hg.os, hg.tape, hg.output, hg.size, fun k hk => hg.block k hk (by simp)⟩
  exact ⟨h1, ⟨l, h2.below hb, h3.below hb⟩, h4.below hb⟩
theorem nums_one {w : World} {G : Nat} {v : Rv} (h : C3 w G (.bool v.s) (.slice v.A v.n v.c) (.slice v.B v.m v.d)) : Nums w (some ⟨G, 0, none⟩) 1 [v] :=
 ⟨rfl, fun _ => ⟨G, 0, rfl, h.lt, fun j x hx => by
  have hj : j < 1 := (List.getElem?_eq_some_iff.1 hx).1
  obtain rfl : j = 0 := by omega
  injection hx with hx; subst hx
  obtain ⟨h0, h1, h2, _⟩ := h.facts
  exact ⟨h0, h1, h2⟩⟩⟩
end Go.Proofs.YtgffkaconhonlaaGreat

namespace Go.Proofs.YtgffkaconhonlaaGreat
set_option maxRecDepth 20000
open Go.RowKit
def MPost (n : Nat) (l : List Rv) (w : World) (e : Ending) (w' : World) : Prop := ∃ r : Bool, e = .returned (.bool r) ∧ (r = false → n ≤ 100 ∧ ∀ x ∈ l, x.n ≤ 3 ∧ x.m ≤ 3) ∧ Below w.heap.size w w'
set_option maxHeartbeats 3200000 in
theorem many_c (A : Option Addr) (n c : Nat) (l : List Rv) (w : World) (hA : Nums w A n l) (hn : n ≤ 1048576) (hb : ∀ x ∈ l, x.n ≤ 1048576 ∧ x.m ≤ 1048576) :
  Calls Tryz.prog 12 #[.slice A n c] w (MPost n l w) := by
 have n0 : (0 : Int) ≤ (n : Int) := by omega
 have n9 : (n : Int) ≤ 1048576 := by omega
 have HA := Lib.hid hA
 have HB := Lib.hid hb
 clear hA hb
 go_enter Tryz.func12, Tryz.ntmps12
 go_wp2
 go_loopw [2, 3, 4] (fun _ nv iv wr => ∃ (i q : Nat), i ≤ n ∧ i ≤ q ∧ q ≤ 100 ∧ iv = .int .i64 i ∧ nv = .int .i64 q ∧ Hid (∀ j x, j < i → l[j]? = some x → x.n ≤ 3 ∧ x.m ≤ 3) ∧ Hid (Below w.heap.size w wr)) (fun _ _ iv _ => n - (intOf iv).toNat)
 case atStart => exact ⟨0, 0, by omega, by omega, by omega, rfl, rfl, Lib.hid (fun j x hj => absurd hj (Nat.not_lt_zero _)), Lib.hid (Below.refl _ _)⟩
 case round =>
  obtain ⟨i, q, hi, hiq, hq, rfl, rfl, HS, HBR⟩ := hrel
  have q0 : (0 : Int) ≤ (q : Int) := by omega
  have q1 : (q : Int) ≤ 100 := by omega
  have i0 : (0 : Int) ≤ (i : Int) := by omega
  by_cases hlt : i < n
  ·
   have i1 : (i : Int) < (n : Int) := by omega
   obtain ⟨b, off, rfl, hbl, hc⟩ := HA.out.mem (by omega)
   have hil : i < l.length := by rw [HA.out.len]; exact hlt
   have hx := List.getElem?_eq_getElem hil
   have HX := Lib.hid hx
   have hm := HB.out _ (List.getElem_mem hil)
   obtain ⟨x0, x1, x2⟩ := (hc i _ hx).keep (HBR.out.block b hbl)
   generalize l[i] = x at *
   have m1 : (x.n : Int) ≤ 1048576 := by omega
   have m2 : (x.m : Int) ≤ 1048576 := by omega
   clear hx hc
   go_wp2_with fail
   go_region
   by_cases h1 : 100 < q + 1 + x.n + x.m
   ·
    have h1' : (100 : Int) < (q : Int) + 1 + (x.n : Int) + (x.m : Int) := by omega
    clear h1
    go_wp2
    go_ret
    exact ⟨true, rfl, (fun h => by cases h), HBR.out.drew⟩
   have h1' : ¬ (100 : Int) < (q : Int) + 1 + (x.n : Int) + (x.m : Int) := by omega
   by_cases h2 : 3 < x.n
   ·
    have h2' : (3 : Int) < (x.n : Int) := by omega
    clear h1 h2
    go_wp2
    go_ret
    exact ⟨true, rfl, (fun h => by cases h), HBR.out.drew⟩
   have h2' : ¬ (3 : Int) < (x.n : Int) := by omega
   by_cases h3 : 3 < x.m
   ·
    have h3' : (3 : Int) < (x.m : Int) := by omega
    clear h1 h2 h3
    go_wp2
    go_ret
    exact ⟨true, rfl, (fun h => by cases h), HBR.out.drew⟩
   have h3' : ¬ (3 : Int) < (x.m : Int) := by omega
   have HL := Lib.hid (And.intro h1 (And.intro h2 h3))
   clear h1 h2 h3
   go_wp2
   go_roundw
   case rel =>
    have h9 := HL.out
    exact ⟨i + 1, q + 1 + x.n + x.m, by omega, by omega, by omega, by go_num, by go_num, Lib.hid (fun j y hj hy => by
     by_cases e : j = i
     ·
      subst e
      rw [HX.out] at hy
      injection hy with hy
      subst hy
      omega
     · exact HS.out j y (by omega) hy), Lib.hid HBR.out.drew⟩
   case measure => simp [intOf]; omega
  ·
   have i1 : ¬ (i : Int) < (n : Int) := by omega
   go_wp2
   go_ret
   exact ⟨false, rfl, (fun _ => ⟨by omega, fun x hx => by
    obtain ⟨j, hj, e⟩ := List.getElem_of_mem hx
    exact HS.out j x (by rw [HA.out.len] at hj; omega) (by rw [List.getElem?_eq_getElem hj, e])⟩), HBR.out⟩
end Go.Proofs.YtgffkaconhonlaaGreat
