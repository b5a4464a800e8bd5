/-
  The document's reduce: a row less what rows with leads of 1 take from it.
  A number stored into a row of the call's own.
-/
import Derived.Test.YtgffkaconhonlaaGreatWGLead
import Derived.Test.YtgffkaconhonlaaGreatWRgn
import Derived.Laws.OwnMore
namespace Go.Proofs.YtgffkaconhonlaaGreat
set_option maxRecDepth 20000
open Go.RowKit
structure Rov where
 A : Option Addr
 c : Nat
 l : List Rv
 f : Nat → Rat
structure Mat (w : World) (A : Option Addr) (m N : Nat) (R : List Rov) : Prop where
 len : R.length = m
 mem : 0 < m → ∃ b o, A = some ⟨b, o, none⟩ ∧ b < w.heap.size ∧ ∀ i r, R[i]? = some r → w.cell? ⟨b, o + i, none⟩ = some (.slice r.A N r.c)
 rd : ∀ r ∈ R, Vec w r.A N r.l r.f 28500000000
theorem Mat.below {w w' : World} {A : Option Addr} {m N : Nat} {R : List Rov} (h : Mat w A m N R) (hb : Below w.heap.size w w') : Mat w' A m N R :=
 ⟨h.len, fun hm => by
  obtain ⟨b, o, e, h1, hc⟩ := h.mem hm
  exact ⟨b, o, e, Nat.lt_of_lt_of_le h1 hb.size, fun i r hr => (World.cell?_of_block (hb.block b h1)).trans (hc i r hr)⟩, fun r hr => (h.rd r hr).below hb⟩
theorem red_snoc (n : Nat) (r : Nat → Rat) : ∀ (R : List (Nat → Rat)) (a : Nat → Rat), red n (R ++ [r]) a = lss (red n R a) r (red n R a (lead n r))
 | [], _ => rfl
 | s :: R, a => red_snoc n r R (lss a s (a (lead n s)))
def redTo (n : Nat) (R : List Rov) (i : Nat) (f : Nat → Rat) : Nat → Rat := red n ((R.take i).map (·.f)) f
theorem redTo_succ {n i : Nat} {R : List Rov} {r : Rov} (h : R[i]? = some r) (f : Nat → Rat) : redTo n R (i + 1) f = lss (redTo n R i f) r.f (redTo n R i f (lead n r.f)) := by
 have e : R.take (i + 1) = R.take i ++ [r] := by rw [List.take_add_one, h]; rfl
 unfold redTo
 rw [e, List.map_append, List.map_singleton, red_snoc]
theorem GrR.congr {w : World} {lo c n p : Nat} {A : Option Addr} {l : List Rv} {f g : Nat → Rat} (h : GrR w lo A c n l f p) (e : ∀ i, i < n → f i = g i) : GrR w lo A c n l g p := ⟨h.own, fun i x hx => by
 rw [← e i (by rw [← h.own.len]; exact (List.getElem?_eq_some_iff.1 hx).1)]; exact h.rd i x hx⟩
theorem red_put {w w3 w4 : World} {lo N B d : Nat} {A : Option Addr} {l : List Rv} {f g : Nat → Rat} (hlo : lo ≤ w.heap.size) (h3 : Below w.heap.size w w3) (hg : GrR w4 B A d N l f 28500000000) (hb : Below w3.heap.size w3 w4) (e : f = g) (hB : B = w3.drew.heap.size := by rfl) :
  GrR w4 lo A d N l g 28500000000 ∧ Below w.heap.size w w4 := by
 subst hB
 subst e
 have h1 := h3.size
 exact ⟨hg.lower (by show lo ≤ w3.heap.size; omega), h3.trans (hb.mono h3.size)⟩
set_option maxHeartbeats 6400000 in
theorem rReduce_c (A B : Option Addr) (m n N c d lo : Nat) (R : List Rov) (l : List Rv) (f : Nat → Rat) (w : World) (hm : Mat w A m N R) (ha : GrR w lo B d N l f 28500000000) (hN : N = n + 1) (hn : n ≤ 900) (hm9 : m ≤ 900) (hlo : lo ≤ w.heap.size)
  (hsz : ∀ i r, R[i]? = some r → ∀ j, j < N → Sz (redTo n R i f (lead n r.f) * r.f j) 28500000000 ∧ Sz (redTo n R (i + 1) f j) 28500000000) :
  Calls Tryz.prog 52 #[.slice A m c, .slice B N d] w fun e w' => ∃ (B' : Option Addr) (d' : Nat) (l' : List Rv), e = .returned (.slice B' N d') ∧ GrR w' lo B' d' N l' (red n (R.map (·.f)) f) 28500000000 ∧ Below w.heap.size w w' := by
 have m0 : (0 : Int) ≤ (m : Int) := by omega
 have m9 : (m : Int) ≤ 900 := by omega
 have HM := Lib.hid hm
 have HA := Lib.hid ha
 have HN := Lib.hid hN
 have HNN : Hid (N ≤ 1000) := by show _ ≤ _; omega
 have HLO := Lib.hid hlo
 have HSS := Lib.hid hsz
 clear hm ha hN hlo hsz
 go_enter Tryz.func52, Tryz.ntmps52
 go_wp2
 go_loopw [1, 5] (fun av iv wr => ∃ (i : Nat) (B' : Option Addr) (d' : Nat) (l' : List Rv), i ≤ m ∧ av = .slice B' N d' ∧ iv = .int .i64 i ∧ Hid (GrR wr lo B' d' N l' (redTo n R i f) 28500000000 ∧ Below w.heap.size w wr)) (fun _ iv _ => m - (intOf iv).toNat)
 case atStart => exact ⟨0, B, d, l, by omega, rfl, rfl, Lib.hid ⟨HA.out, Below.refl _ _⟩⟩
 case round =>
  clear HA
  obtain ⟨i, B', d', l', hi, rfl, rfl, HI⟩ := hrel
  have i0 : (0 : Int) ≤ (i : Int) := by omega
  by_cases hlt : i < m
  ·
   have i1 : (i : Int) < (m : Int) := by omega
   obtain ⟨b, o, hA, hb, hcells⟩ := HM.out.mem (by omega)
   subst hA
   obtain ⟨r, hr⟩ : ∃ r, R[i]? = some r := ⟨_, List.getElem?_eq_getElem (by rw [HM.out.len]; exact hlt)⟩
   have c0 := (World.cell?_of_block (HI.out.2.block b hb)).trans (hcells i r hr)
   have HCB : Hid (∀ w', Below wr.heap.size wr w' → w'.cell? ⟨b, o + i, none⟩ = some (.slice r.A N r.c)) := fun w' h => (World.cell?_of_block ((HI.out.2.trans (h.mono HI.out.2.size)).block b hb)).trans (hcells i r hr)
   have HRV : Hid (∀ w', Below wr.heap.size wr w' → Vec w' r.A N r.l r.f 28500000000) := fun w' h => (HM.out.rd r (List.mem_of_getElem? hr)).below (HI.out.2.trans (h.mono HI.out.2.size))
   have HSZ0 := Lib.hid (HSS.out i r hr)
   have HE0 := Lib.hid (redTo_succ (n := n) hr f)
   clear hr hcells
   go_wp2_with fail
   refine (rLead_c r.A N n r.c r.l r.f 28500000000 _ (HRV.out _ (Below.refl _ _)) HN.out (by omega) (by omega)).mono ?_
   rintro e w2 ⟨he, hb2⟩
   obtain ⟨k, hk⟩ : ∃ k, k = lead n r.f := ⟨_, rfl⟩
   have hkn : k ≤ n := by rw [hk]; exact lead_le n r.f
   rw [← hk] at he
   rw [← hk] at HSZ0 HE0
   subst he
   have k0 : (0 : Int) ≤ (k : Int) := by omega
   have k1 : (k : Int) < (N : Int) := by have := HN.out; omega
   have kN : k < N := by have := HN.out; omega
   obtain ⟨g, hg⟩ : ∃ g, g = redTo n R i f := ⟨_, rfl⟩
   rw [← hg] at HI HSZ0 HE0
   obtain ⟨ba, oa, x, rfl, hba, hx, hxr⟩ := (HI.out.1.vec.below hb2).at_ kN
   have HB2 := Lib.hid hb2
   have HXR := Lib.hid hxr
   have HX := Lib.hid hx
   have c0 := HCB.out _ hb2
   obtain ⟨x0, x1, x2⟩ := hx
   clear hb2 hxr hg hk
   by_cases hz : g k = 0
   ·
    have HZ := Lib.hid hz
    clear hz
    go_wp2_with fail
    refine (rZero_v x (g k) true _ (HXR.out.more (by omega)) (by simp [HZ.out])).mono ?_
    rintro e w3 ⟨rfl, hb3⟩
    have HG : Hid (GrR w3 lo (some ⟨ba, oa, none⟩) d' N l' (redTo n R (i + 1) f) 28500000000 ∧ Below w.heap.size w w3) := by
     refine ⟨((HI.out.1.below HB2.out).below hb3).congr fun j _ => ?_, HI.out.2.trans ((HB2.out.trans (hb3.mono HB2.out.size)).mono HI.out.2.size)⟩
     rw [HE0.out]
     show _ = g j - g k * _
     rw [HZ.out, Rat.zero_mul, sub_nil]
    clear hb3 c0 x0 x1 x2
    go_wp2
    go_roundw
    case rel => exact ⟨i + 1, some ⟨ba, oa, none⟩, d', l', by omega, rfl, by go_num, HG⟩
    case measure => simp [intOf]; omega
   ·
    have HZ := Lib.hid hz
    clear hz
    go_wp2_with fail
    refine (rZero_v x (g k) false _ (HXR.out.more (by omega)) (by simp [HZ.out])).mono ?_
    rintro e w3 ⟨rfl, hb3⟩
    have HW3 : Hid (Below w.heap.size w w3) := HI.out.2.trans ((HB2.out.trans (hb3.mono HB2.out.size)).mono HI.out.2.size)
    have HC : Hid (∀ w', Below w3.heap.size w3 w' → w'.cell? ⟨b, o + i, none⟩ = some (.slice r.A N r.c) ∧ w'.cell? ⟨ba, oa + k * 3, none⟩ = some (.bool x.s) ∧ w'.cell? ⟨ba, oa + k * 3 + 1, none⟩ = some (.slice x.A x.n x.c) ∧ w'.cell? ⟨ba, oa + k * 3 + 2, none⟩ = some (.slice x.B x.m x.d)) := fun w' h => by
     have h2 := hb3.trans (h.mono hb3.size)
     obtain ⟨y0, y1, y2⟩ := HX.out.keep (h2.block ba hba)
     exact ⟨HCB.out _ (HB2.out.trans (h2.mono HB2.out.size)), y0, y1, y2⟩
    have HLS : Hid (∀ w', Below w3.heap.size w3 w' → Nums w' (some ⟨ba, oa, none⟩) N l' ∧ Nums w' r.A N r.l ∧ (∀ j y, l'[j]? = some y → Rw w' y (g j) 28500000000) ∧ (∀ j y, r.l[j]? = some y → Rw w' y (r.f j) 28500000000) ∧ Rw w' x (g k) 28500000000) := fun w' h => by
     have h2 := hb3.trans (h.mono hb3.size)
     have h4 := (HI.out.1.vec.below HB2.out).below h2
     have h5 := HRV.out _ (HB2.out.trans (h2.mono HB2.out.size))
     exact ⟨h4.nums, h5.nums, h4.rd, h5.rd, HXR.out.below h2⟩
    have HE : Hid ((fun j => g j - g k * r.f j) = redTo n R (i + 1) f) := HE0.out.symm
    have HSZ : Hid (∀ j, j < N → Sz (g k * r.f j) 28500000000 ∧ Sz (g j - g k * r.f j) 28500000000) := fun j hj => ⟨(HSZ0.out j hj).1, by
     have := (HSZ0.out j hj).2
     rw [HE0.out] at this
     exact this⟩
    clear c0 x0 x1 x2
    obtain ⟨c0, x0, x1, x2⟩ := HC.out _ (Below.refl _ _)
    clear hb3
    go_wp2_with fail
    refine wp_region_held_drew (S := fun w' => w'.cell? ⟨b, o + i, none⟩ = some (.slice r.A N r.c) ∧ w'.cell? ⟨ba, oa + k * 3, none⟩ = some (.bool x.s) ∧ w'.cell? ⟨ba, oa + k * 3 + 1, none⟩ = some (.slice x.A x.n x.c) ∧ w'.cell? ⟨ba, oa + k * 3 + 2, none⟩ = some (.slice x.B x.m x.d)) (by kernel_rfl) ?_ (fun hHeld => ?_)
    ·
     (try dsimp only)
     go_keep
    refine tk (i := 0) (h := ?_)
    try simp only [zR]
    refine tk (i := 1) (h := ?_)
    try simp only [zR]
    refine tk (i := 2) (h := ?_)
    try simp only [zR]
    refine tk (i := 3) (h := ?_)
    try simp only [zR]
    refine tk (i := 4) (h := ?_)
    try simp only [zR]
    refine tk (i := 5) (h := ?_)
    try simp only [zR]
    refine tk (i := 6) (h := ?_)
    try simp only [zR]
    refine tk (i := 7) (h := ?_)
    try simp only [zR]
    refine tk (i := 8) (h := ?_)
    try simp only [zR]
    refine tr [9] ?_
    refine tc (h := fun K hK => ?_) (hs := tn)
    try go_simp
    go_at_call 84
    refine (rLess_c (some ⟨ba, oa, none⟩) r.A N d' r.c l' r.l g r.f x (g k) 28500000000 _ (HLS.out _ (drew_bel w3)).1 (HLS.out _ (drew_bel w3)).2.1 (HLS.out _ (drew_bel w3)).2.2.1 (HLS.out _ (drew_bel w3)).2.2.2.1 (HLS.out _ (drew_bel w3)).2.2.2.2 HNN.out (HSZ.out)).mono ?_
    rintro ee w4 ⟨B4, d4, l4, rfl, ⟨hg4, _⟩, hb4⟩
    have HG := Lib.hid (red_put (lo := lo) HLO.out HW3.out hg4 ((drew_bel w3).trans hb4) HE.out)
    obtain ⟨c0, x0, x1, x2⟩ := HC.out _ ((drew_bel w3).trans hb4)
    clear hg4 hb4
    try go_wp2_with fail
    refine hK.out _ _ ?_ (fun hHeld => ?_)
    · (try dsimp only); go_keep
    clear hK K
    try simp only [zR]
    refine tk (i := 10) (h := ?_)
    try simp only [zR]
    refine wpAnyH_done (by kernel_rfl) ?_ _
    clear c0 x0 x1 x2
    go_wp2
    go_roundw
    case rel => exact ⟨i + 1, B4, d4, l4, by omega, rfl, by go_num, HG⟩
    case measure => simp [intOf]; omega
  ·
   have him : i = m := by omega
   subst him
   have i1 : ¬ (i : Int) < (i : Int) := by omega
   go_wp2
   go_ret
   refine ⟨B', d', rfl, ⟨l', ?_⟩, HI.out.2⟩
   have e : redTo n R i f = red n (R.map (·.f)) f := by
    unfold redTo
    rw [List.take_of_length_le (by rw [HM.out.len]; exact Nat.le_refl _)]
   rw [← e]
   exact HI.out.1
end Go.Proofs.YtgffkaconhonlaaGreat

namespace Go.Proofs.YtgffkaconhonlaaGreat
set_option maxRecDepth 20000
open Go.RowKit
def putR (w : World) (b o : Nat) (v : Rv) : World := ((w.setCell ⟨b, o, none⟩ (.bool v.s)).setCell ⟨b, o + 1, none⟩ (.slice v.A v.n v.c)).setCell ⟨b, o + 2, none⟩ (.slice v.B v.m v.d)
def upd (f : Nat → Rat) (j : Nat) (r : Rat) : Nat → Rat := fun i => if i = j then r else f i
theorem flatR_set : ∀ (l : List Rv) (j : Nat) (t : Rv), (((l.flatMap rcells).set (j * 3) (.bool t.s)).set (j * 3 + 1) (.slice t.A t.n t.c)).set (j * 3 + 2) (.slice t.B t.m t.d) = (l.set j t).flatMap rcells
 | [], j, t => by simp
 | x :: l, 0, t => rfl
 |
  x :: l, j + 1, t => by
  have e : ∀ (y : Rv) (k : List Rv), (y :: k).flatMap rcells = .bool y.s :: .slice y.A y.n y.c :: .slice y.B y.m y.d :: k.flatMap rcells := fun _ _ => rfl
  rw [List.set_cons_succ, e, e, ← flatR_set l j t, show (j + 1) * 3 = j * 3 + 1 + 1 + 1 by omega, show j * 3 + 1 + 1 + 1 + 2 = (j * 3 + 2) + 1 + 1 + 1 by omega]
  simp only [List.set_cons_succ]
theorem gput_grown (w : World) (b j : Nat) (x : Value) : w.grownBy (w.setCell ⟨b, j, none⟩ x) (some b) :=
 ⟨rfl, rfl, rfl, by simp [World.setCell], fun k _ hk => heap_setCell_other w ⟨b, j, none⟩ k x (fun e => hk (by simp [e]))⟩
theorem putR_grown (w : World) (b o : Nat) (v : Rv) : w.grownBy (putR w b o v) (some b) :=
 ((gput_grown w b o _).trans (gput_grown _ b _ _)).trans (gput_grown _ b _ _)
theorem OwnR.set {w : World} {lo c n g j : Nat} {l : List Rv} {t : Rv} (h : OwnR w lo (some ⟨g, 0, none⟩) c n l) : OwnR (putR w g (j * 3) t) lo (some ⟨g, 0, none⟩) c n (l.set j t) := by
 refine ⟨by rw [List.length_set, h.len], ?_⟩
 rw [← flatR_set]
 exact ((((h.own.stored (j * 3) (.bool t.s)).1).stored (j * 3 + 1) (.slice t.A t.n t.c)).1.stored (j * 3 + 2) (.slice t.B t.m t.d)).1
theorem GrR.set {w : World} {lo c n g j p : Nat} {l : List Rv} {f : Nat → Rat} {t : Rv} {r : Rat} (h : GrR w lo (some ⟨g, 0, none⟩) c n l f p) (ht : RwO w (some ⟨g, 0, none⟩) t r p) :
  GrR (putR w g (j * 3) t) lo (some ⟨g, 0, none⟩) c n (l.set j t) (upd f j r) p := by
 have hg := putR_grown w g (j * 3) t
 refine ⟨h.own.set, fun i x hx => ?_⟩
 rw [List.getElem?_set] at hx
 unfold upd
 split at hx
 ·
  next e =>
  subst e
  split at hx
  ·
   injection hx with hx
   subst hx
   rw [if_pos rfl]
   exact ht.grown hg
  · cases hx
 ·
  next e =>
  rw [if_neg (fun e2 => e e2.symm)]
  exact (h.rd i x hx).grown hg
theorem putR_below {B : Nat} {w0 w : World} {b : Nat} (h : Below B w0 w) (hb : B ≤ b) (o : Nat) (v : Rv) : Below B w0 (putR w b o v) := ((h.setCell hb _).setCell hb _).setCell hb _
end Go.Proofs.YtgffkaconhonlaaGreat
