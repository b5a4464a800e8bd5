/-
  Rows of sums put together: slices.Grow, slices.Concat.
  The program's Beaten.
-/
import Derived.Test.YtgffkaconhonlaaGreatQClo
import Derived.Test.YtgffkaconhonlaaGreatQMAa
import Derived.Test.YtgffkaconhonlaaGreatQHrE
import Derived.Test.YtgffkaconhonlaaGreatQHrG
import Derived.Test.YtgffkaconhonlaaGreatQRawL
import Derived.Test.YtgffkaconhonlaaGreatQRgn
namespace Go.Proofs.YtgffkaconhonlaaGreat
set_option maxRecDepth 20000
open Go.RowKit
set_option maxHeartbeats 1600000 in
theorem GrowC_c (n : Nat) (w : World) (hn : n ≤ 1000000) :
  Calls Tryz.prog 95 #[.slice none 0 0, .int .i64 (n : Int)] w fun e w' => ∃ A c, e = .returned (.slice A 0 c) ∧ OwnC w' w.heap.size A c 0 [] ∧ Below w.heap.size w w' := by
 obtain ⟨i0, hi, hsz⟩ := Option.map_eq_some_iff.1 Tryz.info28
 have hz : i0.zero = some (.agg #[.int .i64 0, .slice none 0 0, .bool false, .slice none 0 0, .slice none 0 0]) := by
  have := Tryz.zero28
  rw [hi] at this
  exact this
 injection hsz with hsz1 hsz2
 go_enter Tryz.func95, Tryz.ntmps95
 by_cases h0 : n = 0
 ·
  subst h0
  go_wp2
  go_ret
  exact ⟨none, 0, rfl, OwnC.nil_ w _, Below.refl _ _⟩
 ·
  have g1 : (0 : Int) < (n : Int) := by omega
  have g2 : (n : Int) ≤ 1000000 := by omega
  have hr := Lib.hid (Lib.run_append_nil_zeros w 22 3 22 28 i0 _ .i64 .i64 Tryz.underlying22 Tryz.under3 hi hz n (by omega) (by rw [hsz1]; omega) (by omega) (by rw [hsz2]; omega))
  have hcap := grownCap_ge w n 0 28
  have hcm := grownCap_le_maxLen w n 0 28 (by unfold maxLen; omega)
  go_wp2_with (at_builtin; refine Lib.wpList_append_run _ rfl _ _ _ _ rfl _ _ rfl rfl _ _ hr.out ?_)
  go_wp2
  go_ret
  refine ⟨some ⟨w.heap.size, 0, none⟩, grownCap w n 0 28, rfl, ⟨rfl, World.ownsRow_made w.drew _ _ (Nat.le_refl _) hcm ?_⟩, ((Below.refl _ _).drew).alloc (Nat.le_refl _) _⟩
  rw [Array.size_append, size_zeroCells, size_zeroCells, ← Nat.add_mul]
  show (n + (grownCap w n 0 28 - n)) * 5 = _
  rw [Nat.add_sub_cancel' hcap]
set_option maxHeartbeats 3200000 in
theorem ConcatC_c (b : Nat) (A B : Option Addr) (n c m d : Nat) (k l : List Cv) (w : World) (hb : b < w.heap.size) (h0 : w.cell? ⟨b, 0, none⟩ = some (.slice A n c)) (h1 : w.cell? ⟨b, 1, none⟩ = some (.slice B m d)) (ha : Kons w A n k) (hl : Kons w B m l) (hn : n ≤ 1000) (hm : m ≤ 1000) :
  Calls Tryz.prog 66 #[.slice (some ⟨b, 0, none⟩) 2 2] w fun e w' => ∃ A2 c2, e = .returned (.slice A2 (n + m) c2) ∧ OwnC w' w.heap.size A2 c2 (n + m) (k ++ l) ∧ Below w.heap.size w w' := by
 go_enter Tryz.func66, Tryz.ntmps66
 have n9 : (n : Int) ≤ 1000 := by omega
 have m9 : (m : Int) ≤ 1000 := by omega
 have H0 := Lib.hid h0
 have H1 := Lib.hid h1
 have HA := Lib.hid ha
 have HL := Lib.hid hl
 clear h0 h1 ha hl
 go_wp2
 go_loopw [3, 5, 11] (fun sv _ iv wr => w = wr ∧ ((iv = .int .i64 0 ∧ sv = .int .i64 0) ∨ (iv = .int .i64 1 ∧ sv = .int .i64 (n : Int)) ∨ (iv = .int .i64 2 ∧ sv = .int .i64 ((n : Int) + (m : Int))))) (fun _ _ iv _ => 2 - (intOf iv).toNat)
 case atStart => exact ⟨rfl, .inl ⟨rfl, rfl⟩⟩
 case round =>
  obtain ⟨rfl, ⟨rfl, rfl⟩ | ⟨rfl, rfl⟩ | ⟨rfl, rfl⟩⟩ := hrel
  ·
   have h0 := H0.out
   go_wp2
   go_roundw
   case rel => simp
   case measure => simp [intOf]
  ·
   have h1 := H1.out
   go_wp2
   go_roundw
   case rel => simp
   case measure => simp [intOf]
  ·
   go_wp2_with fail
   refine (GrowC_c (n + m) _ (by omega)).mono ?_
   rintro e w1 ⟨A1, c1, rfl, ho, hb1⟩
   have HO := Lib.hid (And.intro ho hb1)
   clear ho hb1
   go_wp2
   go_loopw [6, 8, 27] (fun nv _ iv wr => ∃ (A2 : Option Addr) (c2 p : Nat) (ks : List Cv), nv = .slice A2 p c2 ∧ Hid (OwnC wr w.heap.size A2 c2 p ks ∧ Below w.heap.size w wr) ∧ ((iv = .int .i64 0 ∧ p = 0 ∧ ks = []) ∨ (iv = .int .i64 1 ∧ n = p ∧ k = ks) ∨ (iv = .int .i64 2 ∧ p = n + m ∧ ks = k ++ l))) (fun _ _ iv _ => 2 - (intOf iv).toNat)
   case atStart => exact ⟨A1, c1, 0, [], rfl, HO, .inl ⟨rfl, rfl, rfl⟩⟩
   case round =>
    clear HO
    obtain ⟨A2, c2, p, ks, rfl, HO, ⟨rfl, rfl, rfl⟩ | ⟨rfl, rfl, rfl⟩ | ⟨rfl, rfl, rfl⟩⟩ := hrel
    ·
     have h0 := (World.cell?_of_block (HO.out.2.block b hb)).trans H0.out
     go_wp2_with (at_builtin; refine wpc_appends rfl _ _ rfl rfl rfl HO.out.1 (HA.out.below HO.out.2) (by omega) HO.out.2.size ?_)
     intro A3 c3 w3 ho3 hg3
     have HO3 := Lib.hid (And.intro ho3 (below_grown HO.out.2 hg3 (fun ad e => (HO.out.1.lt ad e).1) HO.out.2.size))
     clear ho3 hg3 HO h0
     go_wp2
     go_roundw
     case rel => exact ⟨A3, c3, n, k, rfl, by simpa using HO3, .inr (.inl ⟨rfl, rfl, rfl⟩)⟩
     case measure => simp [intOf]
    ·
     have h1 := (World.cell?_of_block (HO.out.2.block b hb)).trans H1.out
     go_wp2_with (at_builtin; refine wpc_appends rfl _ _ rfl rfl rfl HO.out.1 (HL.out.below HO.out.2) (by omega) HO.out.2.size ?_)
     intro A3 c3 w3 ho3 hg3
     have HO3 := Lib.hid (And.intro ho3 (below_grown HO.out.2 hg3 (fun ad e => (HO.out.1.lt ad e).1) HO.out.2.size))
     clear ho3 hg3 HO h1
     go_wp2
     go_roundw
     case rel => exact ⟨A3, c3, n + m, k ++ l, rfl, HO3, .inr (.inr ⟨rfl, rfl, rfl⟩)⟩
     case measure => simp [intOf]
    ·
     go_wp2
     go_ret
     exact ⟨A2, c2, rfl, HO.out.1, HO.out.2⟩
end Go.Proofs.YtgffkaconhonlaaGreat

namespace Go.Proofs.YtgffkaconhonlaaGreat
set_option maxRecDepth 20000
open Go.RowKit
def stK (N : Nat) (B : List Rat) (ks : List Cv) : List Kin := (List.range N).map fun v : Nat => ⟨(ks[v]?).getD kzero, [((v : Int), ((1 : Int) : Rat))], -(atV B (v : Int)), true⟩
theorem stK_v {N : Nat} {B : List Rat} {ks : List Cv} (h : ks.length = N) : (stK N B ks).map (·.v) = ks := by
 unfold stK
 rw [List.map_map]
 refine List.ext_getElem (by simp [h]) fun i h1 h2 => ?_
 simp [List.getElem?_eq_getElem h2]
theorem stK_sm {N : Nat} {B : List Rat} {ks : List Cv} (h : ∀ v, v < N → ∃ sv, ks[v]? = some sv ∧ sv.s = 4) : (stK N B ks).map (smOf N) = (List.range N).map (stayS N B) := by
 unfold stK
 rw [List.map_map]
 refine List.map_congr_left fun v hv => ?_
 obtain ⟨sv, h1, h2⟩ := h v (List.mem_range.1 hv)
 show smOf N _ = _
 unfold smOf stayS
 show (((ks[v]?).getD kzero).s, true, _) = _
 rw [h1]
 show (sv.s, true, _) = _
 rw [h2]
theorem stK_hin {w : World} {lo N s : Nat} {B : List Rat} {ks : List Cv} (hs : 4 ≤ s) (hz : ∀ y ∈ B, Sz y 4) (h : ∀ v, v < N → ∃ sv, ks[v]? = some sv ∧ Stay w lo v (atV B (v : Int)) sv) : ∀ x ∈ stK N B ks, Hin N s w x ∧ x.L.length = 1 := by
 intro x hx
 obtain ⟨v, hv, rfl⟩ := List.mem_map.1 hx
 obtain ⟨sv, h1, h2⟩ := h v (List.mem_range.1 hv)
 rw [h1]
 exact ⟨h2.hin (by omega) (List.mem_range.1 hv) (sz_atV hz _).neg hs, rfl⟩
def BeatPost (N : Nat) (p : Nat → Rat) (all : List Sm) (w : World) (e : Ending) (w' : World) : Prop := ∃ r : Int, e = .returned (.int .i64 r) ∧ BeatAns N p all r ∧ Below w.heap.size w w'
structure BtR (lo X : Nat) (w2 wr : World) (R : Nat → Option Addr × Nat) (ls : Nat → List Cv) : Prop where
 blk : C5a wr X (arr5 R ls)
 own : ∀ s, s < 5 → OwnC wr lo (R s).1 (R s).2 (ls s).length (ls s)
 ne : ∀ s t, s < 5 → t < 5 → s ≠ t → ∀ ad ad', (R s).1 = some ad → (R t).1 = some ad' → ad.block ≠ ad'.block
 far : ∀ s, s < 5 → ∀ ad, (R s).1 = some ad → ad.block ≠ X
 below : Below lo w2 wr
 lo : lo ≤ w2.heap.size
section
variable {lo X : Nat} {w2 wr w' : World} {R : Nat → Option Addr × Nat} {ls : Nat → List Cv}
theorem BtR.lt (h : BtR lo X w2 wr R ls) : X < wr.heap.size := (Array.getElem?_eq_some_iff.1 h.blk).1
theorem BtR.step_ (h : BtR lo X w2 wr R ls) (hb : Below wr.heap.size wr w') : BtR lo X w2 w' R ls :=
 ⟨(hb.block X h.lt).trans h.blk, fun s hs => (h.own s hs).below hb, h.ne, h.far, h.below.trans (hb.mono (Nat.le_trans h.lo h.below.size)), h.lo⟩
theorem BtR.cell (h : BtR lo X w2 wr R ls) {s : Nat} (hs : s < 5) : wr.cell? ⟨X, s, none⟩ = some (.slice (R s).1 (ls s).length (R s).2) := by
 have h' : wr.heap[X]? = some (.cells (arr5 R ls) 86 (0, 0)) := h.blk
 have : s = 0 ∨ s = 1 ∨ s = 2 ∨ s = 3 ∨ s = 4 := by omega
 rcases this with rfl | rfl | rfl | rfl | rfl <;> simp [World.cell?, h']
theorem BtR.app {s : Nat} (h : BtR lo X w2 wr R ls) (hs : s < 5) (ho : OwnC w' lo (R s).1 (R s).2 (ls s).length (ls s)) (hg : wr.grownBy w' ((R s).1.map (·.block))) : BtR lo X w2 w' R ls := by
 refine ⟨(hg.block X h.lt fun e => ?_).trans h.blk, fun k hk => ?_, h.ne, h.far, h.below.grown hg (Nat.le_trans h.lo h.below.size) fun b e => ?_, h.lo⟩
 ·
  cases hR : (R s).1 with
  | none => rw [hR] at e; cases e
  | some ad => rw [hR] at e; injection e with e; exact h.far s hs ad hR e.symm
 ·
  by_cases e : k = s
  · rw [e]; exact ho
  ·
   refine (h.own k hk).grown hg fun ad ea e2 => ?_
   cases hR : (R s).1 with
   | none => rw [hR] at e2; cases e2
   | some a0 => rw [hR] at e2; injection e2 with e2; exact h.ne k s hk hs e ad a0 ea hR e2
 ·
  cases hR : (R s).1 with
  | none => rw [hR] at e; cases e
  | some ad => rw [hR] at e; injection e with e; have := ((h.own s hs).lt ad hR).1; have e2 : ad.block = b := e; omega
end
set_option maxHeartbeats 25600000 in
theorem Beaten_c (s d N : Nat) (A Ab Av : Option Addr) (m c nb cb cv : Nat) (vs : List Kin) (lb lv : List Rv) (B V : List Rat) (w : World) (h : Hns N s w A m vs) (h4 : 4 ≤ s) (hs : s ≤ 150) (hm : m ≤ 900) (hN : N ≤ 64) (hbr : Nums w Ab nb lb) (hbd : RdV w 4 lb B) (hnb : nb ≤ 1000) (hV : Vin N w Av lv V)
  (hr : RoomD s d N) (hd : ∀ x ∈ vs, x.ok = true → x.L.length ≤ d) (hd1 : 1 ≤ d) :
  Calls Tryz.prog 35 #[.slice A m c, .slice Ab nb cb, .slice Av N cv] w (BeatPost N (ptOf V) (allS N vs B) w) := by
 have HH := Lib.hid (And.intro h (And.intro hV (And.intro hr hd)))
 have HB := Lib.hid (And.intro hbr hbd)
 have N0 : (0 : Int) ≤ (N : Int) := by omega
 have N1 : (N : Int) ≤ 64 := by omega
 have NN : ¬ (64 : Int) < (N : Int) := by omega
 have m0 : (0 : Int) ≤ (m : Int) := by omega
 have m1 : (m : Int) ≤ 900 := by omega
 have HLEN : Hid (vs.length = m) := h.len
 clear h hV hr hd hbr hbd
 go_enter Tryz.func35, Tryz.ntmps35
 go_wp2_with fail
 refine (stays_c Ab nb cb N lb B _ HB.out.1 HB.out.2 hnb hN).mono ?_
 rintro e w1 ⟨ks, rfl, hown, hb1, hst⟩
 have H1 := Lib.hid (And.intro hown (And.intro hb1 hst))
 clear hown hb1 hst
 go_wp2_with fail
 have HC0 : Hid ((w1.alloc (.cells #[.slice A m c, .slice (some ⟨w.heap.size, 0, none⟩) N N] 22)).cell? ⟨w1.heap.size, 0, none⟩ = some (.slice A m c) ∧ (w1.alloc (.cells #[.slice A m c, .slice (some ⟨w.heap.size, 0, none⟩) N N] 22)).cell? ⟨w1.heap.size, 1, none⟩ = some (.slice (some ⟨w.heap.size, 0, none⟩) N N) ∧ Below w1.heap.size w1 (w1.alloc (.cells #[.slice A m c, .slice (some ⟨w.heap.size, 0, none⟩) N N] 22)) ∧ w1.heap.size < (w1.alloc (.cells #[.slice A m c, .slice (some ⟨w.heap.size, 0, none⟩) N N] 22)).heap.size) := by
  refine ⟨?_, ?_, (Below.refl _ _).alloc (Nat.le_refl _) _, by simp⟩ <;> (rw [World.cell?_alloc_at _ _ _ _ rfl]; rfl)
 generalize w1.alloc (.cells #[.slice A m c, .slice (some ⟨w.heap.size, 0, none⟩) N N] 22) = W1 at *
 have HB1 : Hid (Below w.heap.size w W1) := H1.out.2.1.trans (HC0.out.2.2.1.mono H1.out.2.1.size)
 refine (ConcatC_c w1.heap.size A (some ⟨w.heap.size, 0, none⟩) m c N N (vs.map (·.v)) ks W1 HC0.out.2.2.2 HC0.out.1 HC0.out.2.1 (HH.out.1.kons.below HB1.out) ((H1.out.1.below HC0.out.2.2.1).kons) (by omega) (by omega)).mono ?_
 rintro e w2 ⟨A2, c2, rfl, ho2, hb2⟩
 obtain ⟨al, hal⟩ : ∃ al, al = vs ++ stK N B ks := ⟨_, rfl⟩
 have HB2 : Hid (Below w.heap.size w w2) := HB1.out.trans (hb2.mono HB1.out.size)
 have HZB := RdV.sz (by omega) HB.out.2
 have HSK := stK_hin (w := w1) (s := s) h4 HZB H1.out.2.2
 have HAL : Hid (Hns N s w2 A2 (m + N) al ∧ al.map (smOf N) = allS N vs B ∧ ∀ x ∈ al, x.ok = true → x.L.length ≤ d) := by
  subst hal
  refine ⟨⟨?_, fun x hx => ?_⟩, ?_, fun x hx ho => ?_⟩
  ·
   rw [List.map_append, stK_v H1.out.1.len]
   exact ho2.kons
  ·
   rcases List.mem_append.1 hx with hx | hx
   · exact (HH.out.1.rd x hx).below HB2.out
   · exact (HSK x hx).1.below (HC0.out.2.2.1.trans (hb2.mono HC0.out.2.2.1.size))
  ·
   rw [List.map_append, stK_sm fun v hv => by obtain ⟨sv, g1, g2⟩ := H1.out.2.2 v hv; obtain ⟨⟨G, z, g3, _⟩, _⟩ := g2; exact ⟨sv, g1, g3⟩]
   rfl
  ·
   rcases List.mem_append.1 hx with hx | hx
   · exact HH.out.2.2.2 x hx ho
   · rw [(HSK x hx).2]; exact hd1
 have HAN : Hid (al.length = m + N) := HAL.out.1.len
 clear HZB HSK hal ho2 hb2 HC0 H1 HB1
 go_wp2_with fail
 refine (holding_c s N A2 Av (m + N) c2 cv al lv V w2 HAL.out.1 hs (HH.out.2.1.below HB2.out) (by omega)).mono ?_
 rintro e w3 ⟨R, rfl, hb3, hown3, hne3⟩
 obtain ⟨ls, hls⟩ : ∃ ls, ls = holdL N (ptOf V) al := ⟨_, rfl⟩
 have HLS := Lib.hid hls
 rw [← hls] at hown3
 rw [← hls]
 clear hls
 go_upto_region 5 with fail
 have HS0 : Hid (BtR w2.heap.size w3.heap.size w2 (w3.alloc (.cells (arr5 R ls) 86)) R ls) := by
  have hb := (Below.refl w3.heap.size w3).alloc (Nat.le_refl _) (.cells (arr5 R ls) 86)
  exact ⟨heap_alloc_new w3 _, fun k hk => (hown3 k hk).below hb, hne3, fun k hk ad e => by have := ((hown3 k hk).lt ad e).2; omega, hb3.trans (hb.mono hb3.size), Nat.le_refl _⟩
 obtain ⟨X, hX⟩ : ∃ X, X = w3.heap.size := ⟨_, rfl⟩
 rw [← hX] at HS0
 rw [← hX]
 generalize w3.alloc (.cells (arr5 R ls) 86) = W3 at *
 clear hb3 hown3 hne3 hX
 go_wp2
 go_loopw [9, 10, 26] (fun _ _ iv wr => ∃ i : Nat, i ≤ m + N ∧ iv = .int .i64 i ∧ Hid (BtR w2.heap.size X w2 wr R ls ∧ ∀ j x, j < i → al[j]? = some x → ¬ Could N (ptOf V) (allS N vs B) (smOf N x))) (fun _ _ iv _ => m + N - (intOf iv).toNat)
 case atStart => exact ⟨0, Nat.zero_le _, rfl, Lib.hid ⟨HS0.out, fun j x hj => absurd hj (Nat.not_lt_zero _)⟩⟩
 case round =>
  clear HS0
  obtain ⟨i, hi, rfl, HS⟩ := hrel
  have i0 : (0 : Int) ≤ (i : Int) := by omega
  by_cases hlt : i < m + N
  ·
   have i1 : (i : Int) < (m : Int) + (N : Int) := by omega
   have hil : i < al.length := by rw [HAN.out]; exact hlt
   obtain ⟨b, off, hA, hbw, hcc⟩ := HAL.out.1.kons.mem (by omega)
   have hx := List.getElem?_eq_getElem hil
   have HXM := Lib.hid (List.getElem_mem hil)
   have h5 := hcc i _ (show (al.map (·.v))[i]? = some al[i].v by rw [List.getElem?_map, hx]; rfl)
   have HX := Lib.hid hx
   generalize al[i] = x at *
   obtain ⟨k0, k1, k2, k3, k4⟩ := h5.keep (HS.out.1.below.block b hbw)
   subst hA
   clear hx hcc hbw h5 hil
   obtain ⟨va, L_, k_, ok_⟩ := x
   go_upto_region 8 with fail
   clear k0 k1 k2 k3 k4
   have HY0 : Hid (C5 (wr.alloc (.cells #[.int .i64 va.s, .slice va.A va.n va.c, .bool va.K.s, .slice va.K.A va.K.n va.K.c, .slice va.K.B va.K.m va.K.d] 28)) wr.heap.size (.int .i64 va.s) (.slice va.A va.n va.c) (.bool va.K.s) (.slice va.K.A va.K.n va.K.c) (.slice va.K.B va.K.m va.K.d) ∧ Below wr.heap.size wr (wr.alloc (.cells #[.int .i64 va.s, .slice va.A va.n va.c, .bool va.K.s, .slice va.K.A va.K.n va.K.c, .slice va.K.B va.K.m va.K.d] 28))) := ⟨C5.new wr (.int .i64 va.s) (.slice va.A va.n va.c) (.bool va.K.s) (.slice va.K.A va.K.n va.K.c) (.slice va.K.B va.K.m va.K.d), (Below.refl _ _).alloc (Nat.le_refl _) _⟩
   generalize wr.alloc (.cells #[.int .i64 va.s, .slice va.A va.n va.c, .bool va.K.s, .slice va.K.A va.K.n va.K.c, .slice va.K.B va.K.m va.K.d] 28) = wa at *
   obtain ⟨Y, hY⟩ : ∃ Y, Y = wr.heap.size := ⟨_, rfl⟩
   rw [← hY] at HY0
   rw [← hY]
   have HNY : Hid (∀ k, k < 5 → ∀ ad, (R k).1 = some ad → ad.block ≠ Y) := fun k hk ad e => by have := ((HS.out.1.own k hk).lt ad e).2; omega
   have HWA : Hid (BtR w2.heap.size X w2 wa R ls ∧ C5 wa Y (.int .i64 va.s) (.slice va.A va.n va.c) (.bool va.K.s) (.slice va.K.A va.K.n va.K.c) (.slice va.K.B va.K.m va.K.d)) := ⟨HS.out.1.step_ (hY ▸ HY0.out.2), HY0.out.1⟩
   have HBE : Hid (∀ j x, j < i → al[j]? = some x → ¬ Could N (ptOf V) (allS N vs B) (smOf N x)) := HS.out.2
   have HBW : Hid (Below w2.heap.size w2 wa) := HWA.out.1.below
   clear HY0 hY HS
   by_cases hq : holB N (ptOf V) ⟨va, L_, k_, ok_⟩ = true
   ·
    have HQ := Lib.hid hq
    clear hq
    have HAL2 : Hid (∀ w', Below wa.heap.size wa w' → w'.cell? ⟨Y, 0, none⟩ = some (.int .i64 va.s) ∧ w'.cell? ⟨Y, 1, none⟩ = some (.slice va.A va.n va.c) ∧ w'.cell? ⟨Y, 2, none⟩ = some (.bool va.K.s) ∧ w'.cell? ⟨Y, 3, none⟩ = some (.slice va.K.A va.K.n va.K.c) ∧ w'.cell? ⟨Y, 4, none⟩ = some (.slice va.K.B va.K.m va.K.d)) := fun w' h => (HWA.out.2.below h).facts
    obtain ⟨k0, k1, k2, k3, k4⟩ := HAL2.out _ (Below.refl _ _)
    refine wp_region_held_drew (S := fun w' => w'.cell? ⟨Y, 0, none⟩ = some (.int .i64 va.s) ∧ w'.cell? ⟨Y, 1, none⟩ = some (.slice va.A va.n va.c) ∧ w'.cell? ⟨Y, 2, none⟩ = some (.bool va.K.s) ∧ w'.cell? ⟨Y, 3, none⟩ = some (.slice va.K.A va.K.n va.K.c) ∧ w'.cell? ⟨Y, 4, none⟩ = some (.slice va.K.B va.K.m va.K.d)) (by kernel_rfl) ?_ (fun hHeld => ?_)
    ·
     (try dsimp only)
     go_keep
    refine tk (i := 0) (h := ?_)
    try simp only [zR]
    refine tk (i := 1) (h := ?_)
    try simp only [zR]
    refine tr [2] ?_
    refine tc (h := fun K hK => ?_) (hs := tn)
    try go_simp
    go_at_call 65
    refine (holds_c s N ⟨va, L_, k_, ok_⟩ Av cv lv V _ (((HAL.out.1.rd _ HXM.out).below HBW.out).below (bel1 wa)) hs ((HH.out.2.1.below (HB2.out.trans (HBW.out.mono HB2.out.size))).below (bel1 wa))).mono ?_
    rintro e z2 ⟨rfl, hb⟩
    rw [HQ.out]
    have P2 : Hid (Below wa.heap.size wa z2) := (bel1 wa).trans hb
    clear hb
    clear k0 k1 k2 k3 k4
    obtain ⟨k0, k1, k2, k3, k4⟩ := HAL2.out _ P2.out
    try go_wp2_with fail
    refine hK.out _ _ ?_ (fun hHeld => ?_)
    · (try dsimp only); go_keep
    clear hK K
    try simp only [zR]
    refine tk (i := 3) (h := ?_)
    try simp only [zR]
    refine tk (i := 4) (h := ?_)
    try simp only [zR]
    refine ts (i := 5) (h := ?_)
    try simp only [zR]
    refine ts (i := 6) (h := ?_)
    try simp only [zR]
    refine ts (i := 7) (h := ?_)
    try simp only [zR]
    refine ts (i := 8) (h := ?_)
    try simp only [zR]
    refine ts (i := 9) (h := ?_)
    try simp only [zR]
    refine ts (i := 10) (h := ?_)
    try simp only [zR]
    refine ts (i := 11) (h := ?_)
    try simp only [zR]
    refine ts (i := 12) (h := ?_)
    try simp only [zR]
    refine ts (i := 13) (h := ?_)
    try simp only [zR]
    refine ts (i := 14) (h := ?_)
    try simp only [zR]
    refine tk (i := 15) (h := ?_)
    try simp only [zR]
    refine wpAnyH_done (by kernel_rfl) ?_ _
    clear k0 k1 k2 k3 k4
    have HN : Hid (BtR w2.heap.size X w2 z2 R ls ∧ ∀ j x, j < i + 1 → al[j]? = some x → ¬ Could N (ptOf V) (allS N vs B) (smOf N x)) := ⟨HWA.out.1.step_ P2.out, fun j x hj hx => by
     by_cases e : j = i
     ·
      subst e
      rw [HX.out] at hx
      injection hx with hx
      subst hx
      exact not_could HQ.out
     · exact HBE.out j x (by omega) hx⟩
    clear HWA HBE HBW
    go_wp2
    go_roundw
    case rel => exact ⟨i + 1, by omega, by go_num, HN⟩
    case measure => simp [intOf]; omega
   ·
    have hq' : holB N (ptOf V) ⟨va, L_, k_, ok_⟩ = false := by simpa using hq
    have HQ := Lib.hid hq'
    obtain ⟨la, hla1, hla2⟩ := HAL.out.1.rd _ HXM.out
    have hs4 : 0 ≤ va.s ∧ va.s ≤ 4 := (hla2.1 (holB_no hq').1).1
    obtain ⟨sI, vA, vn, vc, vK⟩ := va
    obtain ⟨q, rfl⟩ : ∃ q : Nat, sI = (q : Int) := ⟨sI.toNat, by have h0 : 0 ≤ sI := hs4.1; omega⟩
    have hq5 : q < 5 := by have h0 : (q : Int) ≤ 4 := hs4.2; omega
    have q0 : (0 : Int) ≤ (q : Int) := by omega
    have q5 : (q : Int) < 5 := by omega
    clear hq hq' hla1 hla2 hs4
    have HSL : Hid ((ls q).length ≤ 990) := by rw [HLS.out]; exact Nat.le_trans (holdL_len _ _ _ _) (by rw [HAN.out]; omega)
    have HWY : Hid (C5 wa Y (.int .i64 (q : Int)) (.slice vA vn vc) (.bool vK.s) (.slice vK.A vK.n vK.c) (.slice vK.B vK.m vK.d)) := HWA.out.2
    have HAL2 : Hid (∀ w', Below wa.heap.size wa w' → (w'.cell? ⟨Y, 0, none⟩ = some (.int .i64 (q : Int)) ∧ w'.cell? ⟨Y, 1, none⟩ = some (.slice vA vn vc) ∧ w'.cell? ⟨Y, 2, none⟩ = some (.bool vK.s) ∧ w'.cell? ⟨Y, 3, none⟩ = some (.slice vK.A vK.n vK.c) ∧ w'.cell? ⟨Y, 4, none⟩ = some (.slice vK.B vK.m vK.d)) ∧ w'.cell? ⟨X, q, none⟩ = some (.slice (R q).1 (ls q).length (R q).2)) := fun w' h => ⟨(HWY.out.below h).facts, (HWA.out.1.step_ h).cell hq5⟩
    obtain ⟨⟨k0, k1, k2, k3, k4⟩, l0⟩ := HAL2.out _ (Below.refl _ _)
    refine wp_region_held_drew (S := fun w' => (w'.cell? ⟨Y, 0, none⟩ = some (.int .i64 (q : Int)) ∧ w'.cell? ⟨Y, 1, none⟩ = some (.slice vA vn vc) ∧ w'.cell? ⟨Y, 2, none⟩ = some (.bool vK.s) ∧ w'.cell? ⟨Y, 3, none⟩ = some (.slice vK.A vK.n vK.c) ∧ w'.cell? ⟨Y, 4, none⟩ = some (.slice vK.B vK.m vK.d)) ∧ w'.cell? ⟨X, q, none⟩ = some (.slice (R q).1 (ls q).length (R q).2)) (by kernel_rfl) ?_ (fun hHeld => ?_)
    ·
     (try dsimp only)
     go_keep
    refine tk (i := 0) (h := ?_)
    try simp only [zR]
    refine tk (i := 1) (h := ?_)
    try simp only [zR]
    refine tr [2] ?_
    refine tc (h := fun K hK => ?_) (hs := tn)
    try go_simp
    go_at_call 65
    refine (holds_c s N ⟨⟨(q : Int), vA, vn, vc, vK⟩, L_, k_, ok_⟩ Av cv lv V _ (((HAL.out.1.rd _ HXM.out).below HBW.out).below (bel1 wa)) hs ((HH.out.2.1.below (HB2.out.trans (HBW.out.mono HB2.out.size))).below (bel1 wa))).mono ?_
    rintro e z2 ⟨rfl, hb⟩
    rw [HQ.out]
    have P2 : Hid (Below wa.heap.size wa z2) := (bel1 wa).trans hb
    clear hb
    clear k0 k1 k2 k3 k4 l0
    obtain ⟨⟨k0, k1, k2, k3, k4⟩, l0⟩ := HAL2.out _ P2.out
    try go_wp2_with fail
    refine hK.out _ _ ?_ (fun hHeld => ?_)
    · (try dsimp only); go_keep
    clear hK K
    try simp only [zR]
    refine tk (i := 3) (h := ?_)
    try simp only [zR]
    refine tk (i := 4) (h := ?_)
    try simp only [zR]
    refine tk (i := 5) (h := ?_)
    try simp only [zR]
    refine tk (i := 6) (h := ?_)
    try simp only [zR]
    refine tk (i := 7) (h := ?_)
    try simp only [zR]
    refine tk (i := 8) (h := ?_)
    try simp only [zR]
    refine tk (i := 9) (h := ?_)
    try simp only [zR]
    refine tk (i := 12) (h := ?_)
    try simp only [zR]
    refine tk (i := 13) (h := ?_)
    try simp only [zR]
    refine tr [10] ?_
    refine tc (h := fun K hK => ?_) (hs := tn)
    try go_simp
    try go_wp2_with fail
    refine hK.out _ _ ?_ (fun hHeld => ?_)
    · (try dsimp only); go_keep
    clear hK K
    try simp only [zR]
    have P10 : Hid (Below wa.heap.size wa (z2.alloc (.cells #[.int .i64 (q : Int), .slice vA vn vc, .bool vK.s, .slice vK.A vK.n vK.c, .slice vK.B vK.m vK.d] 28))) := P2.out.trans (((Below.refl _ _).alloc (Nat.le_refl _) _).mono P2.out.size)
    have G10 : Hid (C5 (z2.alloc (.cells #[.int .i64 (q : Int), .slice vA vn vc, .bool vK.s, .slice vK.A vK.n vK.c, .slice vK.B vK.m vK.d] 28)) z2.heap.size (.int .i64 (q : Int)) (.slice vA vn vc) (.bool vK.s) (.slice vK.A vK.n vK.c) (.slice vK.B vK.m vK.d)) := C5.new z2 (.int .i64 (q : Int)) (.slice vA vn vc) (.bool vK.s) (.slice vK.A vK.n vK.c) (.slice vK.B vK.m vK.d)
    generalize (z2.alloc (.cells #[.int .i64 (q : Int), .slice vA vn vc, .bool vK.s, .slice vK.A vK.n vK.c, .slice vK.B vK.m vK.d] 28)) = z10 at *
    clear k0 k1 k2 k3 k4 l0
    obtain ⟨⟨k0, k1, k2, k3, k4⟩, l0⟩ := HAL2.out _ P10.out
    refine tr [11] ?_
    refine tc (h := fun K hK => ?_) (hs := tn)
    refine spc_keep (by rfl) _ _ rfl rfl rfl (lo := w2.heap.size) (t := ⟨(q : Int), vA, vn, vc, vK⟩) ((HWA.out.1.step_ P10.out).own q hq5) (At5.of G10.out) (by have := HSL.out; omega) (Nat.le_trans HBW.out.size P10.out.size) ?_
    intro A6 c6 z11 hown hkeep hgrow
    have HR6 : Hid (BtR w2.heap.size X w2 z11 R ls) := (HWA.out.1.step_ P10.out).app hq5 hkeep hgrow
    have HO6 : Hid (OwnC z11 w2.heap.size A6 c6 ((ls q).length + 1) (ls q ++ [⟨(q : Int), vA, vn, vc, vK⟩])) := hown
    have HY6 : Hid (C5 z11 Y (.int .i64 (q : Int)) (.slice vA vn vc) (.bool vK.s) (.slice vK.A vK.n vK.c) (.slice vK.B vK.m vK.d)) := (HWY.out.below P10.out).grown hgrow (fun e => by cases hR : (R q).1 with | none => (rw [hR] at e; cases e) | some a0 => (rw [hR] at e; injection e with e; exact HNY.out q hq5 a0 hR e.symm))
    clear hown hkeep hgrow k0 k1 k2 k3 k4 l0
    obtain ⟨k0, k1, k2, k3, k4⟩ := HY6.out.facts
    have l0 := HR6.out.cell hq5
    try go_wp2_with fail
    refine hK.out _ _ ?_ (fun hHeld => ?_)
    · (try dsimp only); go_keep
    clear hK K
    try simp only [zR]
    refine tr [14] ?_
    refine tc (h := fun K hK => ?_) (hs := tn)
    try go_simp
    go_at_call 17
    have HKN : Hid (Kns N s z11 A6 ((ls q).length + 1) (hold N (ptOf V) al (q : Int) ++ [⟨⟨(q : Int), vA, vn, vc, vK⟩, L_, k_, ok_⟩])) := by
     refine ⟨?_, fun y hy => ?_⟩
     ·
      have h1 := HO6.out.kons
      rw [HLS.out] at h1
      rw [HLS.out, List.map_append]
      exact h1
     ·
      have hyl : y ∈ al := by
       rcases List.mem_append.1 hy with hy | hy
       · exact (List.mem_filter.1 hy).1
       · rw [List.mem_singleton.1 hy]; exact HXM.out
      exact ((HAL.out.1.rd y hyl).below HR6.out.below).kin
    refine (Consistent_d (N : Int) N s d A6 ((ls q).length + 1) c6 (hold N (ptOf V) al (q : Int) ++ [⟨⟨(q : Int), vA, vn, vc, vK⟩, L_, k_, ok_⟩]) _ (by unfold heldN; omega) HKN.out (by have := HSL.out; omega) HH.out.2.2.1 (fun y hy => ?_)).mono ?_
    ·
     rcases List.mem_append.1 hy with hy | hy
     · exact HAL.out.2.2 y (List.mem_filter.1 hy).1
     · rw [List.mem_singleton.1 hy]; exact HAL.out.2.2 _ HXM.out
    rintro e z14 ⟨bb, rfl, hbb, hb⟩
    have HR7 : Hid (BtR w2.heap.size X w2 z14 R ls) := HR6.out.step_ hb
    have HBB : Hid (bb = true ↔ Could N (ptOf V) (allS N vs B) (smOf N ⟨⟨(q : Int), vA, vn, vc, vK⟩, L_, k_, ok_⟩)) := by
     rw [← HAL.out.2.1]
     exact hbb.trans (could_iff HQ.out)
    have HY7 : Hid (C5 z14 Y (.int .i64 (q : Int)) (.slice vA vn vc) (.bool vK.s) (.slice vK.A vK.n vK.c) (.slice vK.B vK.m vK.d)) := HY6.out.below hb
    clear hbb hb HKN k0 k1 k2 k3 k4 l0
    obtain ⟨k0, k1, k2, k3, k4⟩ := HY7.out.facts
    have l0 := HR7.out.cell hq5
    try go_wp2_with fail
    refine hK.out _ _ ?_ (fun hHeld => ?_)
    · (try dsimp only); go_keep
    clear hK K
    try simp only [zR]
    refine tk (i := 15) (h := ?_)
    try simp only [zR]
    refine wpAnyH_done (by kernel_rfl) ?_ _
    clear k0 k1 k2 k3 k4 l0
    cases bb with
    |
     true =>
     have HN : Hid (BeatAns N (ptOf V) (allS N vs B) (i : Int)) := by
      refine .inr ⟨i, smOf N ⟨⟨(q : Int), vA, vn, vc, vK⟩, L_, k_, ok_⟩, rfl, ?_, HBB.out.1 rfl, fun j dd hj hdd => ?_⟩
      · rw [← HAL.out.2.1, List.getElem?_map, HX.out]; rfl
      ·
       rw [← HAL.out.2.1, List.getElem?_map] at hdd
       obtain ⟨y, hy, rfl⟩ := Option.map_eq_some_iff.1 hdd
       exact HBE.out j y hj hy
     have HBN : Hid (Below w.heap.size w z14) := HB2.out.trans (HR7.out.below.mono HB2.out.size)
     clear HWA HBE HBW HR7 HR6 HO6 HY7 HY6 HWY
     go_wp2
     go_ret
     exact ⟨(i : Int), rfl, HN.out, HBN.out⟩
    |
     false =>
     have HN : Hid (BtR w2.heap.size X w2 z14 R ls ∧ ∀ j x, j < i + 1 → al[j]? = some x → ¬ Could N (ptOf V) (allS N vs B) (smOf N x)) := ⟨HR7.out, fun j x hj hx => by
      by_cases e : j = i
      ·
       subst e
       rw [HX.out] at hx
       injection hx with hx
       subst hx
       exact fun h => absurd (HBB.out.2 h) (by simp)
      · exact HBE.out j x (by omega) hx⟩
     clear HWA HBE HBW HR7 HR6 HO6 HY7 HY6 HWY
     go_wp2
     go_roundw
     case rel => exact ⟨i + 1, by omega, by go_num, HN⟩
     case measure => simp [intOf]; omega
  ·
   have i1 : ¬ (i : Int) < (m : Int) + (N : Int) := by omega
   have HN : Hid (BeatAns N (ptOf V) (allS N vs B) (-1)) := by
    refine .inl ⟨rfl, fun c hc => ?_⟩
    rw [← HAL.out.2.1] at hc
    obtain ⟨x, hx, rfl⟩ := List.mem_map.1 hc
    obtain ⟨j, hj, e⟩ := List.getElem_of_mem hx
    exact HS.out.2 j x (by rw [HAN.out] at hj; omega) (by rw [List.getElem?_eq_getElem hj, e])
   have HBN : Hid (Below w.heap.size w wr) := HB2.out.trans (HS.out.1.below.mono HB2.out.size)
   clear HS
   go_wp2
   go_ret
   exact ⟨-1, rfl, HN.out, HBN.out⟩
end Go.Proofs.YtgffkaconhonlaaGreat
