/-
  Numbers that stand while a block ahead of them is written; normal ones.
  The stays of the variables.
-/
import Derived.Test.YtgffkaconhonlaaGreatQStp
import Derived.Test.YtgffkaconhonlaaGreatQHrB
import Derived.Test.YtgffkaconhonlaaGreatQClo
import Derived.OwnWalk
import Derived.Deep.Cut
import Derived.Deep.CutRange
import Derived.Test.YtgffkaconhonlaaGreatQRgn
namespace Go.Proofs.YtgffkaconhonlaaGreat
set_option maxRecDepth 20000
open Go.RowKit
theorem Rt.nrm' {w : World} {lo : Nat} {v : Rv} {r : Rat} (h : Rt w lo v r) : Nrm w v :=
 ⟨_, _, h.num.lower (Nat.zero_le _), h.den.lower (Nat.zero_le _), (IsN_iff _ _ _ h.num.l32 h.den.l32 r (by rw [val_lim, val_lim, h.sign]; exact rn_self r)).2 ⟨h.sign, rfl, rfl⟩⟩
theorem Row.grownLo {w w' : World} {lo n : Nat} {A : Option Addr} {l : List Nat} (h : Row w lo A n l) {B : Option Nat} (hg : w.grownBy w' B) (hB : ∀ k, B = some k → k < lo) : Row w' lo A n l :=
 ⟨h.len, h.l32, fun hn => by
  obtain ⟨b, off, e, h1, h2, hc⟩ := h.mem hn
  exact ⟨b, off, e, h1, Nat.lt_of_lt_of_le h2 hg.size, fun j hj => (World.cell?_of_block (hg.block b h2 (fun e => by have := hB b e.symm; omega))).trans (hc j hj)⟩⟩
theorem Rt.grownLo {w w' : World} {lo : Nat} {r : Rat} {u : Rv} (h : Rt w lo u r) {B : Option Nat} (hg : w.grownBy w' B) (hB : ∀ k, B = some k → k < lo) : Rt w' lo u r :=
 ⟨h.1, h.2, h.3, h.4.grownLo hg hB, h.5, h.6, h.7.grownLo hg hB⟩
theorem Row.apart5 {w : World} {lo n Y : Nat} {A : Option Addr} {l : List Nat} (h : Row w lo A n l) (k : C5 w Y (.int .i64 0) (.slice none 0 0) (.bool false) (.slice none 0 0) (.slice none 0 0)) (hn : 0 < n) : ∃ b' off, A = some ⟨b', off, none⟩ ∧ b' ≠ Y := by
 obtain ⟨b', off, e, h1, h2, hc⟩ := h.mem hn
 refine ⟨b', off, e, fun hbb => ?_⟩
 subst hbb
 have h' : w.heap[b']? = some (.cells #[Value.int .i64 0, .slice none 0 0, .bool false, .slice none 0 0, .slice none 0 0] 28 (0, 0)) := k
 have h0 := hc 0 hn
 rw [Nat.add_zero] at h0
 rcases Nat.lt_or_ge off 5 with h3 | h3
 ·
  have : off = 0 ∨ off = 1 ∨ off = 2 ∨ off = 3 ∨ off = 4 := by omega
  rcases this with rfl | rfl | rfl | rfl | rfl <;> simp [World.cell?, h'] at h0
 ·
  have hn : (#[Value.int .i64 0, .slice none 0 0, .bool false, .slice none 0 0, .slice none 0 0] : Array Value)[off]? = none := Array.getElem?_eq_none (by simpa using h3)
  simp [World.cell?, h', hn] at h0
theorem Row.put5z {w : World} {lo n Y : Nat} {A : Option Addr} {l : List Nat} (h : Row w lo A n l) (k : C5 w Y (.int .i64 0) (.slice none 0 0) (.bool false) (.slice none 0 0) (.slice none 0 0)) (x0 x1 x2 x3 x4 : Value) : Row (put5 w Y x0 x1 x2 x3 x4) lo A n l := by
 by_cases hn : 0 < n
 ·
  obtain ⟨b', off, e, hne⟩ := h.apart5 k hn
  have hs : ∀ ad, A = some ad → ad.block ≠ Y := by intro ad ea; rw [e] at ea; injection ea with ea; subst ea; exact hne
  exact ((((h.set _ hs).set _ hs).set _ hs).set _ hs).set _ hs
 ·
  have h0 : n = 0 := by omega
  subst h0
  exact ⟨h.len, h.l32, fun h => absurd h (by omega)⟩
theorem Rt.put5z {w : World} {lo Y : Nat} {r : Rat} {u : Rv} (h : Rt w lo u r) (k : C5 w Y (.int .i64 0) (.slice none 0 0) (.bool false) (.slice none 0 0) (.slice none 0 0)) (x0 x1 x2 x3 x4 : Value) : Rt (put5 w Y x0 x1 x2 x3 x4) lo u r :=
 ⟨h.1, h.2, h.3, h.4.put5z k _ _ _ _ _, h.5, h.6, h.7.put5z k _ _ _ _ _⟩
theorem Row.far {w w' : World} {lo n : Nat} {A : Option Addr} {l : List Nat} (h : Row w lo A n l) (hs : w.heap.size ≤ w'.heap.size) (hk : ∀ k, lo ≤ k → k < w.heap.size → w'.heap[k]? = w.heap[k]?) : Row w' lo A n l :=
 ⟨h.len, h.l32, fun hn => by
  obtain ⟨b, off, e, h1, h2, hc⟩ := h.mem hn
  exact ⟨b, off, e, h1, Nat.lt_of_lt_of_le h2 hs, fun j hj => (World.cell?_of_block (hk b h1 h2)).trans (hc j hj)⟩⟩
theorem Rt.far {w w' : World} {lo : Nat} {r : Rat} {u : Rv} (h : Rt w lo u r) (hs : w.heap.size ≤ w'.heap.size) (hk : ∀ k, lo ≤ k → k < w.heap.size → w'.heap[k]? = w.heap[k]?) : Rt w' lo u r :=
 ⟨h.1, h.2, h.3, h.4.far hs hk, h.5, h.6, h.7.far hs hk⟩
end Go.Proofs.YtgffkaconhonlaaGreat

namespace Go.Proofs.YtgffkaconhonlaaGreat
set_option maxRecDepth 20000
open Go.RowKit
def kzero : Cv := ⟨0, none, 0, 0, ⟨false, none, 0, 0, none, 0, 0⟩⟩
theorem made_con (n : Nat) : (madeCells #[Value.int .i64 0, .slice none 0 0, .bool false, .slice none 0 0, .slice none 0 0] (n * 5)).toList = (List.replicate n kzero).flatMap kcells := by
 refine List.ext_getElem? fun q => ?_
 have hl : ((List.replicate n kzero).flatMap kcells).length = n * 5 := by rw [flatC_len, List.length_replicate]
 by_cases hq : q < n * 5
 ·
  have h1 := flatC_get (List.replicate n kzero) (q / 5) (q % 5) kzero (by rw [List.getElem?_replicate, if_pos (by omega)]) (by omega)
  rw [show q / 5 * 5 + q % 5 = q by omega] at h1
  rw [h1, Array.getElem?_toList]
  unfold madeCells
  rw [Array.getElem?_map, Array.getElem?_range, if_pos hq]
  have : q % 5 = 0 ∨ q % 5 = 1 ∨ q % 5 = 2 ∨ q % 5 = 3 ∨ q % 5 = 4 := by omega
  show some _ = _
  rcases this with h | h | h | h | h <;> (show some (#[Value.int .i64 0, .slice none 0 0, .bool false, .slice none 0 0, .slice none 0 0][q % 5]!) = _; rw [h]; rfl)
 ·
  rw [List.getElem?_eq_none (l := (List.replicate n kzero).flatMap kcells) (by rw [hl]; omega)]
  exact List.getElem?_eq_none (by rw [Array.length_toList, size_madeCells]; omega)
structure One (w : World) (lo : Nat) (st : Int) (v : Nat) (b : Rat) (sv : Cv) : Prop where
 it : ∃ (G : Nat) (z : Rv), sv.s = st ∧ sv.A = some ⟨G, 0, none⟩ ∧ sv.n = 1 ∧ sv.c = 1 ∧ lo ≤ G ∧ w.heap[G]? = some (.cells #[.int .i64 (v : Int), .bool z.s, .slice z.A z.n z.c, .slice z.B z.m z.d] 47 (0, 0)) ∧ Rt w lo z ((1 : Int) : Rat)
 num : Rt w lo sv.K (-b)
theorem One.below {w w' : World} {lo v : Nat} {st : Int} {b : Rat} {sv : Cv} (h : One w lo st v b sv) (hb : Below w.heap.size w w') : One w' lo st v b sv := by
 obtain ⟨⟨G, z, h1, h2, h3, h4, h5, h6, h7⟩, h8⟩ := h
 exact ⟨⟨G, z, h1, h2, h3, h4, h5, (hb.block G (Array.getElem?_eq_some_iff.1 h6).1).trans h6, h7.below hb⟩, h8.below hb⟩
theorem One.grownLo {w w' : World} {lo v : Nat} {st : Int} {b : Rat} {sv : Cv} (h : One w lo st v b sv) {B : Option Nat} (hg : w.grownBy w' B) (hB : ∀ k, B = some k → k < lo) : One w' lo st v b sv := by
 obtain ⟨⟨G, z, h1, h2, h3, h4, h5, h6, h7⟩, h8⟩ := h
 exact ⟨⟨G, z, h1, h2, h3, h4, h5, (hg.block G (Array.getElem?_eq_some_iff.1 h6).1 (fun e => by have := hB G e.symm; omega)).trans h6, h7.grownLo hg hB⟩, h8.grownLo hg hB⟩
theorem One.far {w w' : World} {lo v : Nat} {st : Int} {b : Rat} {sv : Cv} (h : One w lo st v b sv) (hs : w.heap.size ≤ w'.heap.size) (hk : ∀ k, lo ≤ k → k < w.heap.size → w'.heap[k]? = w.heap[k]?) : One w' lo st v b sv := by
 obtain ⟨⟨G, z, h1, h2, h3, h4, h5, h6, h7⟩, h8⟩ := h
 exact ⟨⟨G, z, h1, h2, h3, h4, h5, (hk G h5 (Array.getElem?_eq_some_iff.1 h6).1).trans h6, h7.far hs hk⟩, h8.far hs hk⟩
theorem One.put5z {w : World} {lo v Y : Nat} {st : Int} {b : Rat} {sv : Cv} (h : One w lo st v b sv) (hk : C5 w Y (.int .i64 0) (.slice none 0 0) (.bool false) (.slice none 0 0) (.slice none 0 0)) (x0 x1 x2 x3 x4 : Value) : One (put5 w Y x0 x1 x2 x3 x4) lo st v b sv := by
 obtain ⟨⟨G, z, h1, h2, h3, h4, h5, h6, h7⟩, h8⟩ := h
 have hne : G ≠ Y := by
  intro e
  subst e
  have g1 : w.heap[G]? = some (.cells #[Value.int .i64 0, .slice none 0 0, .bool false, .slice none 0 0, .slice none 0 0] 28 (0, 0)) := hk
  have g2 := g1.symm.trans h6
  injection g2 with g2
  injection g2 with g2
  have := congrArg Array.size g2
  simp at this
 exact ⟨⟨G, z, h1, h2, h3, h4, h5, (put5_but _ _ _ _ _ _ _ G (Array.getElem?_eq_some_iff.1 h6).1 hne).trans h6, h7.put5z hk _ _ _ _ _⟩, h8.put5z hk _ _ _ _ _⟩
theorem sz_one' : Sz ((1 : Int) : Rat) 1 := by
 have := Sz.lit (x := 1) (y := 1) (s := false) (by omega) (by omega)
 exact this
theorem One.hin {w : World} {lo v N s : Nat} {st : Int} {b : Rat} {sv : Cv} (h : One w lo st v b sv) (h04 : 0 ≤ st ∧ st ≤ 4) (hv : v < N) (hb : Sz (-b) 4) (hs : 4 ≤ s) : Hin N s w ⟨sv, [((v : Int), ((1 : Int) : Rat))], -b, true⟩ := by
 obtain ⟨⟨G, z, h1, h2, h3, h4, h5, h6, h7⟩, h8⟩ := h
 have hz := h7.rw sz_one'
 have hk := h8.rw hb
 have hc : ∀ j, w.cell? ⟨G, j, none⟩ = (#[Value.int .i64 (v : Int), .bool z.s, .slice z.A z.n z.c, .slice z.B z.m z.d] : Array Value)[j]? := fun j => by simp [World.cell?, h6]
 refine ⟨[⟨(v : Int), z⟩], ⟨by rw [h3, h4]; exact Nat.le_refl _, by rw [h3]; omega, ?_, ⟨⟨rfl, hz.more (by omega)⟩, trivial⟩, hk.more hs, ?_⟩, ⟨fun _ => ⟨by rw [h1]; omega, h8.nrm', ?_⟩, fun _ => rfl⟩⟩
 ·
  refine ⟨by rw [h3]; rfl, fun _ => ⟨G, 0, h2, Nat.zero_le _, (Array.getElem?_eq_some_iff.1 h6).1, fun i x hx => ?_⟩⟩
  have hi : i < 1 := (List.getElem?_eq_some_iff.1 hx).1
  have : i = 0 := by omega
  subst this
  injection hx with hx
  subst hx
  exact ⟨hc 0, hc 1, hc 2, hc 3⟩
 ·
  obtain ⟨_, _, g1, g2, _⟩ := hk
  obtain ⟨_, _, g3, g4, _⟩ := hz
  unfold cost
  rw [h3]
  show 2 + sv.K.n + sv.K.m + (0 + (1 + z.n + z.m)) ≤ 150
  omega
 ·
  intro j x hj hx
  have hi : j < 1 := hj
  have : j = 0 := by omega
  subst this
  injection hx with hx
  subst hx
  refine ⟨by show (0 : Int) ≤ (v : Int); omega, by show (v : Int) < (N : Int); omega, fun y hy => absurd hy (by omega), h7.nrm', fun e => ?_⟩
  have := (zero_nrm h7.nrm' hz).2 e
  exact absurd this (by decide +kernel)
abbrev Stay (w : World) (lo : Nat) (v : Nat) (b : Rat) (sv : Cv) : Prop := One w lo 4 v b sv
def StaysPost (N : Nat) (B : List Rat) (w : World) (e : Ending) (w' : World) : Prop :=
 ∃ ks : List Cv, e = .returned (.slice (some ⟨w.heap.size, 0, none⟩) N N) ∧ OwnC w' w.heap.size (some ⟨w.heap.size, 0, none⟩) N N ks ∧ Below w.heap.size w w' ∧ ∀ v, v < N → ∃ sv, ks[v]? = some sv ∧ Stay w' (w.heap.size + 1) v (atV B (v : Int)) sv
structure StayR (w : World) (N i : Nat) (B : List Rat) (wr : World) (ks : List Cv) : Prop where
 own : OwnC wr w.heap.size (some ⟨w.heap.size, 0, none⟩) N N ks
 below : Below w.heap.size w wr
 lt : w.heap.size < wr.heap.size
 st : ∀ v, v < i → ∃ sv, ks[v]? = some sv ∧ Stay wr (w.heap.size + 1) v (atV B (v : Int)) sv
theorem StayR.step_ {w : World} {N i : Nat} {B : List Rat} {wr w2 : World} {ks : List Cv} (h : StayR w N i B wr ks) (hb : Below wr.heap.size wr w2) : StayR w N i B w2 ks :=
 ⟨h.own.below hb, h.below.trans (hb.mono h.below.size), Nat.lt_of_lt_of_le h.lt hb.size, fun v hv => by
  obtain ⟨sv, h1, h2⟩ := h.st v hv
  exact ⟨sv, h1, h2.below hb⟩⟩
theorem StayR.put {w : World} {N i : Nat} {B : List Rat} {wr : World} {ks : List Cv} {sv : Cv} (h : StayR w N i B wr ks) (hi : i < N) (hs : Stay wr (w.heap.size + 1) i (atV B (i : Int)) sv) : StayR w N (i + 1) B (putC wr w.heap.size (i * 5) sv) (ks.set i sv) := by
 have hg := putC_grown wr w.heap.size (i * 5) sv
 have hl := h.own.len
 have hB : ∀ k, some w.heap.size = some k → k < w.heap.size + 1 := fun k e => by injection e with e; omega
 refine ⟨h.own.set, h.below.trans (below_of_grown_row hg (Nat.le_refl _) h.below.size), Nat.lt_of_lt_of_le h.lt hg.size, fun v hv => ?_⟩
 by_cases e : v = i
 ·
  subst e
  exact ⟨sv, by rw [List.getElem?_set_self (by omega)], hs.grownLo hg hB⟩
 ·
  obtain ⟨x, h1, h2⟩ := h.st v (by omega)
  exact ⟨x, by rw [List.getElem?_set_ne (fun e2 => e e2.symm)]; exact h1, h2.grownLo hg hB⟩
set_option maxHeartbeats 12800000 in
theorem stays_c (A : Option Addr) (nb c N : Nat) (lv : List Rv) (B : List Rat) (w : World) (hA : Nums w A nb lv) (hB : RdV w 4 lv B) (hnb : nb ≤ 1000) (hN : N ≤ 64) :
  Calls Tryz.prog 67 #[.slice A nb c, .int .i64 (N : Int)] w (StaysPost N B w) := by
 obtain ⟨i0, hi0, hsz⟩ := Option.map_eq_some_iff.1 Tryz.info28
 have hz : i0.zero = some (.agg #[.int .i64 0, .slice none 0 0, .bool false, .slice none 0 0, .slice none 0 0]) := by
  have := Tryz.zero28
  rw [hi0] at this
  exact this
 injection hsz with hsz1 hsz2
 have HA := Lib.hid (And.intro hA hB)
 have N0 : (0 : Int) ≤ (N : Int) := by omega
 have N1 : (N : Int) ≤ 64 := by omega
 have nb0 : (0 : Int) ≤ (nb : Int) := by omega
 have nb1 : (nb : Int) ≤ 1000 := by omega
 clear hA hB
 go_enter Tryz.func67, Tryz.ntmps67
 go_wp2_with (at_make; refine wpList_make_full _ rfl _ _ _ rfl w.heap.size 28 i0 (.agg #[.int .i64 0, .slice none 0 0, .bool false, .slice none 0 0, .slice none 0 0]) 5 Tryz.underlying22 hi0 hz hsz1 .i64 .i64 _ _ N rfl rfl (by first | rfl | omega) (by first | rfl | omega) (by rw [hsz2]; omega) (by unfold maxLen; omega) (Nat.le_refl _) ?_)
 intro w1 ho hg
 have HS0 : Hid (StayR w N 0 B w1 (List.replicate N kzero)) := by
  refine ⟨⟨List.length_replicate, ?_⟩, below_of_grown hg, ?_, fun v hv => absurd hv (Nat.not_lt_zero _)⟩
  · rw [← made_con]; exact ho
  · exact ho.lt w.heap.size rfl |>.2
 clear ho hg hz hsz1 hsz2 hi0
 go_wp2
 go_loopw [6, 7, 12] (fun _ _ iv wr => ∃ (i : Nat) (ks : List Cv), i ≤ N ∧ iv = .int .i64 i ∧ Hid (StayR w N i B wr ks)) (fun _ _ iv _ => N - (intOf iv).toNat)
 case atStart => exact ⟨0, _, Nat.zero_le _, rfl, HS0⟩
 case round =>
  clear HS0
  obtain ⟨i, ks, hi, rfl, HS⟩ := hrel
  have i0 : (0 : Int) ≤ (i : Int) := by omega
  by_cases hlt : i < N
  ·
   have i1 : (i : Int) < (N : Int) := by omega
   go_wp2_with fail
   refine (Int_any 0 _ (by omega)).mono ?_
   rintro e w2 ⟨z0, rfl, hz0, hb2⟩
   have HW2 : Hid (StayR w N i B w2 ks) := HS.out.step_ hb2
   have HZ0 := Lib.hid (hz0.lower (Nat.zero_le _))
   clear hz0 hb2
   go_upto_if 19 with fail
   obtain ⟨X, hX⟩ : ∃ X, X = w2.heap.size := ⟨_, rfl⟩
   have HX : Hid (w.heap.size < X) := by show _ < _; have := HW2.out.lt; omega
   have HK : Hid (C3 (w2.alloc (.cells #[.bool z0.s, .slice z0.A z0.n z0.c, .slice z0.B z0.m z0.d] 26)) X (.bool z0.s) (.slice z0.A z0.n z0.c) (.slice z0.B z0.m z0.d) ∧ Below w2.heap.size w2 (w2.alloc (.cells #[.bool z0.s, .slice z0.A z0.n z0.c, .slice z0.B z0.m z0.d] 26))) := ⟨hX ▸ C3.new w2 (.bool z0.s) (.slice z0.A z0.n z0.c) (.slice z0.B z0.m z0.d), (Below.refl _ _).alloc (Nat.le_refl _) _⟩
   have HXW : Hid (X = w2.heap.size) := hX
   rw [← hX]
   clear hX
   generalize w2.alloc (.cells #[.bool z0.s, .slice z0.A z0.n z0.c, .slice z0.B z0.m z0.d] 26) = W2 at *
   go_cut [] from 13 to 34 (fun wx => ∃ zb : Rv, Hid (C3 wx X (.bool zb.s) (.slice zb.A zb.n zb.c) (.slice zb.B zb.m zb.d) ∧ Rw wx zb (atV B (i : Int)) 4 ∧ StayR w N i B wx ks))
   case first =>
    obtain ⟨x0, x1, x2, y0, y1, y2⟩ := HK.out.1.facts
    by_cases hq : i < nb
    ·
     have q1 : (i : Int) < (nb : Int) := by omega
     rw [decide_eq_true hq]
     obtain ⟨b, off, hb, hbw, hc⟩ := HA.out.1.mem (by omega)
     obtain ⟨x, y, hx, hy, hr⟩ := HA.out.2.get i (by rw [HA.out.1.len]; exact hq)
     have HBW : Hid (Below w.heap.size w W2) := HW2.out.below.trans (HK.out.2.mono HW2.out.below.size)
     obtain ⟨g0, g1, g2⟩ := (hc i x hx).keep (HBW.out.block b hbw)
     have HR : Hid (Rw w x y 4 ∧ atV B (i : Int) = y) := ⟨hr, by unfold atV; rw [if_pos (by omega), Int.toNat_natCast, hy]; rfl⟩
     subst hb
     have hne : ¬ b = X := by have := HX.out; omega
     clear hx hy hr hc hq
     go_wp2_with fail
     go_meet
     refine ⟨x, HK.out.1.put _ _ _, ?_, (HW2.out.step_ (HK.out.2.trans (put3_below (by rw [HXW.out]; exact Nat.le_refl _) _ _ _)))⟩
     rw [HR.out.2]
     exact HR.out.1.below (HBW.out.trans (put3_below (Nat.le_of_lt HX.out) _ _ _))
    ·
     have q1 : ¬ (i : Int) < (nb : Int) := by omega
     rw [decide_eq_false hq]
     have HR : Hid (atV B (i : Int) = 0) := by
      show atV B (i : Int) = 0
      unfold atV
      rw [if_pos (by omega), Int.toNat_natCast, List.getElem?_eq_none (by rw [← HA.out.2.len, HA.out.1.len]; omega)]
      rfl
     clear hq
     go_wp2_with fail
     go_meet
     refine ⟨z0, HK.out.1, ?_, HW2.out.step_ HK.out.2⟩
     rw [HR.out]
     exact (HZ0.out.below HK.out.2).rw (sz_atV (V := []) (fun y hy => by cases hy) 0)
   case rest =>
    obtain ⟨zb, HC⟩ := hcut
    clear HK HXW HZ0 HW2 HS
    generalize wc = W at *
    have HLO : Hid (w.heap.size + 1 ≤ W.heap.size) := HC.out.2.2.lt
    have HAL : Hid (∀ w', Below W.heap.size W w' → w'.cell? ⟨X, 0, none⟩ = some (.bool zb.s) ∧ w'.cell? ⟨X, 1, none⟩ = some (.slice zb.A zb.n zb.c) ∧ w'.cell? ⟨X, 2, none⟩ = some (.slice zb.B zb.m zb.d)) := fun w' h => by
     obtain ⟨h0, h1, h2, _⟩ := (HC.out.1.below h).facts
     exact ⟨h0, h1, h2⟩
    have HRO : Hid (∀ w', Below W.heap.size W w' → ∃ x, At5 w' w.heap.size (i * 5) x ∧ ∀ j, w'.frozen? ⟨w.heap.size, j, none⟩ = false) := fun w' h => by
     have ho := (HC.out.2.2.step_ h).own
     obtain ⟨b, e, _, _, hc⟩ := ho.mem (by omega)
     injection e with e
     injection e with e _ _
     subst e
     have hl := ho.len
     exact ⟨_, hc i _ (List.getElem?_eq_getElem (show i < ks.length by omega)), ho.thaw⟩
    obtain ⟨x0, x1, x2⟩ := HAL.out _ (Below.refl _ _)
    go_upto_region 8 with fail
    refine wp_region_held_drew (S := fun w' => w'.cell? ⟨X, 0, none⟩ = some (.bool zb.s) ∧ w'.cell? ⟨X, 1, none⟩ = some (.slice zb.A zb.n zb.c) ∧ w'.cell? ⟨X, 2, none⟩ = some (.slice zb.B zb.m zb.d)) (by kernel_rfl) ?_ (fun hHeld => ?_)
    ·
     (try dsimp only)
     go_keep
    refine tk (i := 0) (h := ?_)
    try simp only [zR]
    refine tk (i := 1) (h := ?_)
    try simp only [zR]
    refine tk (i := 2) (h := ?_)
    try simp only [zR]
    refine tk (i := 6) (h := ?_)
    try simp only [zR]
    refine tr [3] ?_
    refine tc (h := fun K hK => ?_) (hs := tn)
    try go_simp
    go_at_call 41
    refine (Int_any 1 _ (by omega)).mono ?_
    rintro e w3 ⟨z, rfl, hz, hb⟩
    have P3 : Hid (Below W.heap.size W w3) := (bel1 W).trans hb
    have Z3 : Hid (Rt w3 (w.heap.size + 1) z ((1 : Int) : Rat)) := hz.lower HLO.out
    clear hz hb
    clear x0 x1 x2
    obtain ⟨x0, x1, x2⟩ := HAL.out _ P3.out
    try go_wp2_with fail
    refine hK.out _ _ ?_ (fun hHeld => ?_)
    · (try dsimp only); go_keep
    clear hK K
    try simp only [zR]
    refine tk (i := 4) (h := ?_)
    try simp only [zR]
    refine tr [5, 7] ?_
    refine tc (h := fun K hK => ?_) (hs := tc (h := fun K hK => ?_) (hs := tn))
    ·
     skip
     try go_simp
     try go_wp2_with fail
     refine hK.out _ _ ?_ (fun hHeld => ?_)
     · (try dsimp only); go_keep
     clear hK K
     try simp only [zR]
     have P5 : Hid (Below W.heap.size W (w3.alloc (.cells #[.int .i64 (i : Int), .bool z.s, .slice z.A z.n z.c, .slice z.B z.m z.d] 47))) := P3.out.trans (((Below.refl _ _).alloc (Nat.le_refl _) _).mono P3.out.size)
     have G5 : Hid ((w3.alloc (.cells #[.int .i64 (i : Int), .bool z.s, .slice z.A z.n z.c, .slice z.B z.m z.d] 47)).heap[w3.heap.size]? = some (.cells #[.int .i64 (i : Int), .bool z.s, .slice z.A z.n z.c, .slice z.B z.m z.d] 47 (0, 0)) ∧ w3.heap.size < (w3.alloc (.cells #[.int .i64 (i : Int), .bool z.s, .slice z.A z.n z.c, .slice z.B z.m z.d] 47)).heap.size ∧ w.heap.size + 1 ≤ w3.heap.size) := ⟨heap_alloc_new w3 _, by simp, Nat.le_trans HLO.out P3.out.size⟩
     have D5 : Hid (Below w3.heap.size w3 (w3.alloc (.cells #[.int .i64 (i : Int), .bool z.s, .slice z.A z.n z.c, .slice z.B z.m z.d] 47))) := (Below.refl _ _).alloc (Nat.le_refl _) _
     replace Z3 : Hid (Rt (w3.alloc (.cells #[.int .i64 (i : Int), .bool z.s, .slice z.A z.n z.c, .slice z.B z.m z.d] 47)) (w.heap.size + 1) z ((1 : Int) : Rat)) := Z3.out.below D5.out
     generalize (w3.alloc (.cells #[.int .i64 (i : Int), .bool z.s, .slice z.A z.n z.c, .slice z.B z.m z.d] 47)) = w5 at *
     clear x0 x1 x2
     obtain ⟨x0, x1, x2⟩ := HAL.out _ P5.out
     refine tr [7] ?_
     refine tc (h := fun K hK => ?_) (hs := tn)
     try go_simp
     go_at_call 43
     refine (Neg_c zb (atV B (i : Int)) _ ((HC.out.2.1.below P5.out).more (by omega))).mono ?_
     rintro e w7 ⟨zk, rfl, hz, hb⟩
     have P7 : Hid (Below W.heap.size W w7) := P5.out.trans (hb.mono P5.out.size)
     have Z7 : Hid (Rt w7 (w.heap.size + 1) zk (-(atV B (i : Int)))) := hz.lower (Nat.le_trans HLO.out P5.out.size)
     replace Z3 : Hid (Rt w7 (w.heap.size + 1) z ((1 : Int) : Rat)) := Z3.out.below hb
     replace G5 : Hid (w7.heap[w3.heap.size]? = some (.cells #[.int .i64 (i : Int), .bool z.s, .slice z.A z.n z.c, .slice z.B z.m z.d] 47 (0, 0)) ∧ w3.heap.size < w7.heap.size ∧ w.heap.size + 1 ≤ w3.heap.size) := ⟨(hb.block _ G5.out.2.1).trans G5.out.1, Nat.lt_of_lt_of_le G5.out.2.1 hb.size, G5.out.2.2⟩
     clear hz hb
     clear x0 x1 x2
     obtain ⟨x0, x1, x2⟩ := HAL.out _ P7.out
     obtain ⟨xo, ⟨y0, y1, y2, y3, y4⟩, hfr⟩ := HRO.out _ P7.out
     have t0 := hfr (i * 5)
     have t1 := hfr (i * 5 + 1)
     have t2 := hfr (i * 5 + 2)
     have t3 := hfr (i * 5 + 3)
     have t4 := hfr (i * 5 + 4)
     clear hfr
     have mA : ¬ X = w.heap.size := by have := HX.out; omega
     have mB : ¬ w.heap.size = X := fun e => mA e.symm
     try go_wp2_with fail
     refine hK.out _ _ ?_ (fun hHeld => ?_)
     · (try dsimp only); go_keep
     clear hK K
     try simp only [zR]
     refine tk (i := 8) (h := ?_)
     try simp only [zR]
     refine tk (i := 9) (h := ?_)
     try simp only [zR]
     refine tr [10] ?_
     refine tc (h := fun K hK => ?_) (hs := tn)
     try go_simp
     try go_wp2_with fail
     refine hK.out _ _ ?_ (fun hHeld => ?_)
     · (try dsimp only); go_keep
     clear hK K
     try simp only [zR]
     refine wpAnyH_done (by kernel_rfl) ?_ _
     clear x0 x1 x2 y0 y1 y2 y3 y4 t0 t1 t2 t3 t4
     have HN : Hid (StayR w N (i + 1) B (putC w7 w.heap.size (i * 5) ⟨4, some ⟨w3.heap.size, 0, none⟩, 1, 1, zk⟩) (ks.set i ⟨4, some ⟨w3.heap.size, 0, none⟩, 1, 1, zk⟩)) := (HC.out.2.2.step_ P7.out).put hlt ⟨⟨w3.heap.size, z, rfl, rfl, rfl, rfl, G5.out.2.2, G5.out.1, Z3.out⟩, Z7.out⟩
     go_wp2
     go_roundw
     case rel => exact ⟨i + 1, _, by omega, by go_num, HN⟩
     case measure => simp [intOf]; omega
    ·
     skip
     try go_simp
     go_at_call 43
     refine (Neg_c zb (atV B (i : Int)) _ ((HC.out.2.1.below P3.out).more (by omega))).mono ?_
     rintro e w7 ⟨zk, rfl, hz, hb⟩
     have P7 : Hid (Below W.heap.size W w7) := P3.out.trans (hb.mono P3.out.size)
     have Z7 : Hid (Rt w7 (w.heap.size + 1) zk (-(atV B (i : Int)))) := hz.lower (Nat.le_trans HLO.out P3.out.size)
     replace Z3 : Hid (Rt w7 (w.heap.size + 1) z ((1 : Int) : Rat)) := Z3.out.below hb
     clear hz hb
     clear x0 x1 x2
     obtain ⟨x0, x1, x2⟩ := HAL.out _ P7.out
     try go_wp2_with fail
     refine hK.out _ _ ?_ (fun hHeld => ?_)
     · (try dsimp only); go_keep
     clear hK K
     try simp only [zR]
     refine tr [5] ?_
     refine tc (h := fun K hK => ?_) (hs := tn)
     try go_simp
     try go_wp2_with fail
     refine hK.out _ _ ?_ (fun hHeld => ?_)
     · (try dsimp only); go_keep
     clear hK K
     try simp only [zR]
     have P5 : Hid (Below W.heap.size W (w7.alloc (.cells #[.int .i64 (i : Int), .bool z.s, .slice z.A z.n z.c, .slice z.B z.m z.d] 47))) := P7.out.trans (((Below.refl _ _).alloc (Nat.le_refl _) _).mono P7.out.size)
     have G5 : Hid ((w7.alloc (.cells #[.int .i64 (i : Int), .bool z.s, .slice z.A z.n z.c, .slice z.B z.m z.d] 47)).heap[w7.heap.size]? = some (.cells #[.int .i64 (i : Int), .bool z.s, .slice z.A z.n z.c, .slice z.B z.m z.d] 47 (0, 0)) ∧ w7.heap.size < (w7.alloc (.cells #[.int .i64 (i : Int), .bool z.s, .slice z.A z.n z.c, .slice z.B z.m z.d] 47)).heap.size ∧ w.heap.size + 1 ≤ w7.heap.size) := ⟨heap_alloc_new w7 _, by simp, Nat.le_trans HLO.out P7.out.size⟩
     have D5 : Hid (Below w7.heap.size w7 (w7.alloc (.cells #[.int .i64 (i : Int), .bool z.s, .slice z.A z.n z.c, .slice z.B z.m z.d] 47))) := (Below.refl _ _).alloc (Nat.le_refl _) _
     replace Z3 : Hid (Rt (w7.alloc (.cells #[.int .i64 (i : Int), .bool z.s, .slice z.A z.n z.c, .slice z.B z.m z.d] 47)) (w.heap.size + 1) z ((1 : Int) : Rat)) := Z3.out.below D5.out
     replace Z7 : Hid (Rt (w7.alloc (.cells #[.int .i64 (i : Int), .bool z.s, .slice z.A z.n z.c, .slice z.B z.m z.d] 47)) (w.heap.size + 1) zk (-(atV B (i : Int)))) := Z7.out.below D5.out
     generalize (w7.alloc (.cells #[.int .i64 (i : Int), .bool z.s, .slice z.A z.n z.c, .slice z.B z.m z.d] 47)) = w5 at *
     clear x0 x1 x2
     obtain ⟨x0, x1, x2⟩ := HAL.out _ P5.out
     obtain ⟨xo, ⟨y0, y1, y2, y3, y4⟩, hfr⟩ := HRO.out _ P5.out
     have t0 := hfr (i * 5)
     have t1 := hfr (i * 5 + 1)
     have t2 := hfr (i * 5 + 2)
     have t3 := hfr (i * 5 + 3)
     have t4 := hfr (i * 5 + 4)
     clear hfr
     have mA : ¬ X = w.heap.size := by have := HX.out; omega
     have mB : ¬ w.heap.size = X := fun e => mA e.symm
     refine tk (i := 8) (h := ?_)
     try simp only [zR]
     refine tk (i := 9) (h := ?_)
     try simp only [zR]
     refine tr [10] ?_
     refine tc (h := fun K hK => ?_) (hs := tn)
     try go_simp
     try go_wp2_with fail
     refine hK.out _ _ ?_ (fun hHeld => ?_)
     · (try dsimp only); go_keep
     clear hK K
     try simp only [zR]
     refine wpAnyH_done (by kernel_rfl) ?_ _
     clear x0 x1 x2 y0 y1 y2 y3 y4 t0 t1 t2 t3 t4
     have HN : Hid (StayR w N (i + 1) B (putC w5 w.heap.size (i * 5) ⟨4, some ⟨w7.heap.size, 0, none⟩, 1, 1, zk⟩) (ks.set i ⟨4, some ⟨w7.heap.size, 0, none⟩, 1, 1, zk⟩)) := (HC.out.2.2.step_ P5.out).put hlt ⟨⟨w7.heap.size, z, rfl, rfl, rfl, rfl, G5.out.2.2, G5.out.1, Z3.out⟩, Z7.out⟩
     go_wp2
     go_roundw
     case rel => exact ⟨i + 1, _, by omega, by go_num, HN⟩
     case measure => simp [intOf]; omega
  ·
   have i1 : ¬ (i : Int) < (N : Int) := by omega
   obtain rfl : i = N := by omega
   go_wp2
   go_ret
   exact ⟨ks, rfl, HS.out.own, HS.out.below, HS.out.st⟩
end Go.Proofs.YtgffkaconhonlaaGreat
