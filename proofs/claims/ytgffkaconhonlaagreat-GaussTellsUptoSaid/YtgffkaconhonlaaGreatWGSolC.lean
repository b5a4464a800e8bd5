/-
  The document's row: a sum as numbers, K last.
  A slice of rows of the call's own.
  Slices of sums; what solve keeps from round to round.
  What solve holds behind so many sums; its sizes.
  The second loop of solve: what the new row takes from the others; then it is kept, too.
-/
import Derived.Test.YtgffkaconhonlaaGreatWGSet
import Derived.Test.YtgffkaconhonlaaGreatWMRf
import Derived.Test.YtgffkaconhonlaaGreatWMAa
import Derived.Test.YtgffkaconhonlaaGreatWRgn
import Derived.Test.YtgffkaconhonlaaGreatWStn
import Derived.Test.YtgffkaconhonlaaGreatWMRr
import Derived.Test.YtgffkaconhonlaaGreatWCRow
namespace Go.Proofs.YtgffkaconhonlaaGreat
set_option maxRecDepth 20000
open Go.RowKit
def rowT (L : List (Int × Rat)) : Nat → Rat := L.foldl (fun f x => upd f x.1.toNat x.2) (fun _ => 0)
def rowF (n : Nat) (L : List (Int × Rat)) (k : Rat) : Nat → Rat := upd (rowT L) n k
theorem rowT_succ {L : List (Int × Rat)} {i : Nat} {Y : Int × Rat} (h : L[i]? = some Y) : rowT (L.take (i + 1)) = upd (rowT (L.take i)) Y.1.toNat Y.2 := by
 have e : L.take (i + 1) = L.take i ++ [Y] := by rw [List.take_add_one, h]; rfl
 unfold rowT
 rw [e, List.foldl_append]
 rfl
theorem OwnR.room {w : World} {lo c n g j : Nat} {l : List Rv} (h : OwnR w lo (some ⟨g, 0, none⟩) c n l) (hj : j < n) :
  (∃ v0 v1 v2, w.cell? ⟨g, j * 3, none⟩ = some v0 ∧ w.cell? ⟨g, j * 3 + 1, none⟩ = some v1 ∧ w.cell? ⟨g, j * 3 + 2, none⟩ = some v2) ∧ w.frozen? ⟨g, j * 3, none⟩ = false ∧ w.frozen? ⟨g, j * 3 + 1, none⟩ = false ∧ w.frozen? ⟨g, j * 3 + 2, none⟩ = false := by
 obtain ⟨x, hx⟩ : ∃ x, l[j]? = some x := ⟨_, List.getElem?_eq_getElem (by rw [h.len]; exact hj)⟩
 obtain ⟨b, e, _, _, hc⟩ := h.mem (by omega)
 injection e with e
 injection e with e
 subst e
 have h3 := hc j x hx
 rw [Nat.zero_add] at h3
 exact ⟨⟨_, _, _, h3.h0, h3.h1, h3.h2⟩, h.own.frozenAt _, h.own.frozenAt _, h.own.frozenAt _⟩
theorem Rw.old {w w' : World} {v : Rv} {r : Rat} {p g : Nat} (h : Rw w v r p) (hg : w.heap.size ≤ g) (hb : Below w.heap.size w w') : RwO w' (some ⟨g, 0, none⟩) v r p := (h.new hg rfl).below hb
theorem grr_drew {W w : World} {lo c n p : Nat} {A : Option Addr} {l : List Rv} {f : Nat → Rat} (h : GrR w lo A c n l f p ∧ Below W.heap.size W w) : GrR w.drew lo A c n l f p ∧ Below W.heap.size W w.drew := ⟨h.1.below (drew_bel w), h.2.drew⟩
set_option maxHeartbeats 6400000 in
theorem rRow_c (va : Cv) (L : List (Int × Rat)) (k : Rat) (n N : Nat) (w : World) (ha : Cw w va L k 28500000000) (hL : ∀ x ∈ L, 0 ≤ x.1 ∧ x.1 < (n : Int)) (hv : va.n ≤ 1000) (hN : N = n + 1) (hn : n ≤ 900) :
  Calls Tryz.prog 53 #[.agg #[.int .i64 va.s, .slice va.A va.n va.c, .bool va.K.s, .slice va.K.A va.K.n va.K.c, .slice va.K.B va.K.m va.K.d], .int .i64 (n : Int)] w fun e w' => ∃ (R : Option Addr) (c : Nat) (l : List Rv), e = .returned (.slice R N c) ∧ GrR w' w.heap.size R c N l (rowF n L k) 28500000000 ∧ Below w.heap.size w w' := by
 obtain ⟨_, ⟨la, ha2, ha3⟩, ha4⟩ := ha
 have n0 : (0 : Int) ≤ (n : Int) := by omega
 have n9 : (n : Int) ≤ 900 := by omega
 have v0 : (0 : Int) ≤ (va.n : Int) := by omega
 have v9 : (va.n : Int) ≤ 1000 := by omega
 have ku : C5 (w.alloc (.cells #[.int .i64 va.s, .slice va.A va.n va.c, .bool va.K.s, .slice va.K.A va.K.n va.K.c, .slice va.K.B va.K.m va.K.d] 28)) w.heap.size (.int .i64 va.s) (.slice va.A va.n va.c) (.bool va.K.s) (.slice va.K.A va.K.n va.K.c) (.slice va.K.B va.K.m va.K.d) := C5.new w (.int .i64 va.s) (.slice va.A va.n va.c) (.bool va.K.s) (.slice va.K.A va.K.n va.K.c) (.slice va.K.B va.K.m va.K.d)
 have hB : Below w.heap.size w (w.alloc (.cells #[.int .i64 va.s, .slice va.A va.n va.c, .bool va.K.s, .slice va.K.A va.K.n va.K.c, .slice va.K.B va.K.m va.K.d] 28)) := (Below.refl _ _).alloc (Nat.le_refl _) _
 have hs : (w.alloc (.cells #[.int .i64 va.s, .slice va.A va.n va.c, .bool va.K.s, .slice va.K.A va.K.n va.K.c, .slice va.K.B va.K.m va.K.d] 28)).heap.size = w.heap.size + 1 := by simp
 have HT := Lib.hid (And.intro ha2 ha3)
 have HK := Lib.hid ha4
 have HL := Lib.hid hL
 have HN := Lib.hid hN
 clear ha2 ha3 ha4 hL hN
 go_enter Tryz.func53, Tryz.ntmps53
 go_wp2_with fail
 generalize w.alloc (.cells #[.int .i64 va.s, .slice va.A va.n va.c, .bool va.K.s, .slice va.K.A va.K.n va.K.c, .slice va.K.B va.K.m va.K.d] 28) = W at *
 have HKU := Lib.hid ku
 have HWW := Lib.hid (And.intro hB hs)
 clear ku hB hs
 try go_wp2
 go_loopw [5, 6] (fun lv iv wr => ∃ (i : Nat) (R : Option Addr) (e : Nat) (l : List Rv), i ≤ N ∧ lv = .slice R i e ∧ iv = .int .i64 i ∧ Hid (GrR wr W.heap.size R e i l (fun _ => 0) 28500000000 ∧ Below W.heap.size W wr)) (fun _ iv _ => N - (intOf iv).toNat)
 case atStart => exact ⟨0, none, 0, [], by omega, rfl, rfl, Lib.hid ⟨GrR.nil_ _ _ _ _, Below.refl _ _⟩⟩
 case round =>
  obtain ⟨i, R, e, l, hi, rfl, rfl, HIN⟩ := hrel
  have i0 : (0 : Int) ≤ (i : Int) := by omega
  by_cases hlt : i ≤ n
  ·
   have i1 : (i : Int) ≤ (n : Int) := by omega
   go_wp2_with fail
   refine (rInt_c 0 _ (by omega)).mono ?_
   rintro ee w2 ⟨z, rfl, hz, hb2⟩
   have hsz0 : Sz ((0 : Int) : Rat) 28500000000 := Sz.zero (by omega)
   have HLT := Lib.hid (less_put HIN.out.1 hb2 (show Rt w2 wr.heap.size z ((fun _ => 0 : Nat → Rat) i) from hz) (Nat.le_refl _) hsz0)
   have HB2 := Lib.hid hb2
   have HN2 : Hid (i + 1 ≤ 2000000) := by show _ ≤ _; omega
   clear hz hb2 hsz0
   go_wp2_with (at_builtin; refine wpr_append rfl _ _ rfl rfl rfl HLT.out.1 HLT.out.2.1 HLT.out.2.2 HN2.out (less_lo HIN.out.2 HB2.out) ?_)
   intro R2 c2 w5 hg hgr hwh
   have HG := Lib.hid (And.intro hg (below_grown ((HIN.out.2.trans (HB2.out.mono HIN.out.2.size)).alloc (less_lo0 HIN.out.2 HB2.out) (.cells #[.bool z.s, .slice z.A z.n z.c, .slice z.B z.m z.d] 26)) hgr (fun ad e => (HIN.out.1.own.lt ad e).1) (less_lo HIN.out.2 HB2.out)))
   clear hg hgr hwh
   go_wp2
   go_roundw
   case rel => exact ⟨i + 1, R2, c2, l ++ [z], by have := HN.out; omega, rfl, by go_num, HG⟩
   case measure => have := HN.out; simp [intOf]; omega
  ·
   obtain rfl : i = N := by have := HN.out; omega
   have i1 : ¬ (i : Int) ≤ (n : Int) := by omega
   obtain ⟨g, rfl, hgl, hgs, _⟩ := HIN.out.1.own.mem (by have := HN.out; omega)
   have HGL := Lib.hid hgl
   have hgw : w.heap.size + 1 ≤ g := by have := HWW.out.2; omega
   clear hgl hgs
   go_wp2
   go_loopw [7] (fun iv wq => ∃ (i2 : Nat) (l2 : List Rv), i2 ≤ va.n ∧ iv = .int .i64 i2 ∧ Hid (GrR wq W.heap.size (some ⟨g, 0, none⟩) e i l2 (rowT (L.take i2)) 28500000000 ∧ Below W.heap.size W wq)) (fun iv _ => va.n - (intOf iv).toNat)
   case atStart => exact ⟨0, l, by omega, rfl, Lib.hid ⟨HIN.out.1, HIN.out.2⟩⟩
   case round =>
    clear HIN
    obtain ⟨i2, l2, hi2, rfl, HI2⟩ := hrel
    have j0 : (0 : Int) ≤ (i2 : Int) := by omega
    have HALL : Hid (∀ w', Below W.heap.size W w' → C5 w' w.heap.size (.int .i64 va.s) (.slice va.A va.n va.c) (.bool va.K.s) (.slice va.K.A va.K.n va.K.c) (.slice va.K.B va.K.m va.K.d)) := fun w' h => HKU.out.below h
    by_cases hl2 : i2 < va.n
    ·
     have j1 : (i2 : Int) < (va.n : Int) := by omega
     obtain ⟨b, off, hvA, _, hbw, hc⟩ := HT.out.1.mem (by omega)
     obtain ⟨x, Y, hx, hX, hxv, hxr⟩ := HT.out.2.get i2 (by rw [HT.out.1.len]; omega)
     obtain ⟨y0, y1⟩ := HL.out Y (List.mem_of_getElem? hX)
     obtain ⟨j, hj⟩ : ∃ j : Nat, Y.1 = (j : Int) := ⟨Y.1.toNat, by omega⟩
     have hxc := hc i2 x hx
     obtain ⟨x0, x1, x2, x3⟩ := hxc.keep ((HWW.out.1.trans (HI2.out.2.mono HWW.out.1.size)).block b hbw)
     rw [hxv, hj] at x0
     obtain ⟨a0, a1, a2, a3, a4⟩ := (HALL.out _ HI2.out.2).facts
     rw [hvA] at a1
     have k0 : (0 : Int) ≤ (j : Int) := by omega
     have k1 : (j : Int) < (i : Int) := by have := HN.out; omega
     have kN : j < i := by omega
     obtain ⟨⟨v0, v1, v2, s0, s1, s2⟩, t0, t1, t2⟩ := HI2.out.1.own.room kN
     have HSTEP : Hid (GrR (putR wr g (j * 3) x.r) W.heap.size (some ⟨g, 0, none⟩) e i (l2.set j x.r) (rowT (L.take (i2 + 1))) 28500000000 ∧ Below W.heap.size W (putR wr g (j * 3) x.r)) := by
      refine ⟨?_, putR_below HI2.out.2 HGL.out _ _⟩
      rw [rowT_succ hX, hj, Int.toNat_natCast]
      exact HI2.out.1.set (hxr.old (by omega) (HWW.out.1.trans (HI2.out.2.mono HWW.out.1.size)))
     have n1 : ¬ w.heap.size = g := by omega
     have n2 : ¬ g = w.heap.size := by omega
     have n3 : ¬ b = g := by omega
     have n4 : ¬ g = b := by omega
     clear hxc hxr hxv hX hx hc hvA hj y0 y1
     unfold putR at HSTEP
     go_wp2_with fail
     refine wp_region_held_drew (S := fun w' => w'.cell? ⟨w.heap.size, 1, none⟩ = some (.slice (some ⟨b, off, none⟩) va.n va.c) ∧ w'.cell? ⟨b, off + i2 * 4, none⟩ = some (.int .i64 (j : Int)) ∧ w'.cell? ⟨b, off + i2 * 4 + 1, none⟩ = some (.bool x.r.s) ∧ w'.cell? ⟨b, off + i2 * 4 + 2, none⟩ = some (.slice x.r.A x.r.n x.r.c) ∧ w'.cell? ⟨b, off + i2 * 4 + 3, none⟩ = some (.slice x.r.B x.r.m x.r.d)) (by kernel_rfl) ?_ (fun hHeld => ?_)
     ·
      (try dsimp only)
      go_keep
     refine tk (i := 0) (h := ?_)
     try simp only [zR]
     refine tk (i := 1) (h := ?_)
     try simp only [zR]
     refine tk (i := 2) (h := ?_)
     try simp only [zR]
     refine tk (i := 3) (h := ?_)
     try simp only [zR]
     refine tk (i := 4) (h := ?_)
     try simp only [zR]
     refine tk (i := 5) (h := ?_)
     try simp only [zR]
     refine tk (i := 6) (h := ?_)
     try simp only [zR]
     refine tk (i := 7) (h := ?_)
     try simp only [zR]
     refine tk (i := 8) (h := ?_)
     try simp only [zR]
     refine tk (i := 9) (h := ?_)
     try simp only [zR]
     refine tk (i := 10) (h := ?_)
     try simp only [zR]
     refine tk (i := 11) (h := ?_)
     try simp only [zR]
     refine tk (i := 12) (h := ?_)
     try simp only [zR]
     refine tk (i := 13) (h := ?_)
     try simp only [zR]
     refine tr [14] ?_
     refine tc (h := fun K hK => ?_) (hs := tn)
     try go_simp
     try go_wp2_with fail
     refine hK.out _ _ ?_ (fun hHeld => ?_)
     · (try dsimp only); go_keep
     clear hK K
     try simp only [zR]
     refine wpAnyH_done (by kernel_rfl) ?_ _
     clear a0 a1 a2 a3 a4 x0 x1 x2 x3
     go_wp2
     go_roundw
     case rel => exact ⟨i2 + 1, l2.set j x.r, by omega, by go_num, Lib.hid (grr_drew HSTEP.out)⟩
     case measure => simp [intOf]; omega
    ·
     obtain rfl : i2 = va.n := by omega
     have j1 : ¬ (va.n : Int) < (va.n : Int) := by omega
     obtain ⟨a0, a1, a2, a3, a4⟩ := (HALL.out _ HI2.out.2).facts
     have k1 : (n : Int) < (i : Int) := by have := HN.out; omega
     have kN : n < i := by have := HN.out; omega
     obtain ⟨⟨v0, v1, v2, s0, s1, s2⟩, t0, t1, t2⟩ := HI2.out.1.own.room kN
     have HEND : Hid (GrR (putR wr g (n * 3) va.K) W.heap.size (some ⟨g, 0, none⟩) e i (l2.set n va.K) (rowF n L k) 28500000000 ∧ Below W.heap.size W (putR wr g (n * 3) va.K)) := by
      refine ⟨?_, putR_below HI2.out.2 HGL.out _ _⟩
      have h1 := HI2.out.1
      rw [List.take_of_length_le (by rw [← HT.out.2.len, HT.out.1.len]; exact Nat.le_refl _)] at h1
      exact h1.set (HK.out.old (by omega) (HWW.out.1.trans (HI2.out.2.mono HWW.out.1.size)))
     have n1 : ¬ w.heap.size = g := by omega
     have n2 : ¬ g = w.heap.size := by omega
     unfold putR at HEND
     go_wp2
     go_ret
     exact ⟨some ⟨g, 0, none⟩, e, rfl, ⟨l2.set n va.K, HEND.out.1.lower HWW.out.1.size⟩, HWW.out.1.trans (HEND.out.2.mono HWW.out.1.size)⟩
end Go.Proofs.YtgffkaconhonlaaGreat

namespace Go.Proofs.YtgffkaconhonlaaGreat
set_option maxRecDepth 20000
open Go.RowKit
theorem Tryz.info29 : (Tryz.prog.info? 29).map (fun i => (i.size, i.bytes)) = some (1, 24) := by kernel_rfl
theorem Tryz.zero29 : (Tryz.prog.info? 29).bind (·.zero) = some (.slice none 0 0) := by kernel_rfl
structure RovO (w : World) (X : Option Addr) (N : Nat) (r : Rov) : Prop where
 nums : Nums w r.A N r.l
 rd : ∀ i y, r.l[i]? = some y → RwO w X y (r.f i) 28500000000
 ne : 0 < N → ∀ a, r.A = some a → ∀ g, X.map (·.block) = some g → a.block ≠ g
theorem RovO.vec {w : World} {X : Option Addr} {N : Nat} {r : Rov} (h : RovO w X N r) : Vec w r.A N r.l r.f 28500000000 := ⟨h.nums, fun i x hx => (h.rd i x hx).1⟩
theorem Nums.grown {w w' : World} {A : Option Addr} {n : Nat} {l : List Rv} {row : Option Nat} (h : Nums w A n l) (hg : w.grownBy w' row) (hne : 0 < n → ∀ a, A = some a → some a.block ≠ row) : Nums w' A n l :=
 ⟨h.len, fun hn => by
  obtain ⟨b, off, e, h1, hc⟩ := h.mem hn
  exact ⟨b, off, e, Nat.lt_of_lt_of_le h1 hg.size, fun i r hr => (hc i r hr).keep (hg.block b h1 (hne hn _ e))⟩⟩
theorem RovO.grown {w w' : World} {X : Option Addr} {N : Nat} {r : Rov} (h : RovO w X N r) (hg : w.grownBy w' (X.map (·.block))) : RovO w' X N r :=
 ⟨h.nums.grown hg (fun hn a e e2 => h.ne hn a e _ e2.symm rfl), fun i y hy => (h.rd i y hy).grown hg, h.ne⟩
theorem RovO.below {w w' : World} {X : Option Addr} {N : Nat} {r : Rov} (h : RovO w X N r) (hb : Below w.heap.size w w') : RovO w' X N r :=
 ⟨h.nums.below hb, fun i y hy => (h.rd i y hy).below hb, h.ne⟩
theorem RovO.congr {w : World} {X : Option Addr} {N : Nat} {r : Rov} (h : RovO w X N r) {f : Nat → Rat} (e : ∀ i, i < N → r.f i = f i) : RovO w X N { r with f := f } :=
 ⟨h.nums, fun i y hy => by
  show RwO w X y (f i) _
  rw [← e i (by rw [← h.nums.len]; exact (List.getElem?_eq_some_iff.1 hy).1)]
  exact h.rd i y hy, h.ne⟩
theorem RovO.new {w : World} {X X' : Option Addr} {N H : Nat} {r : Rov} (h : RovO w X N r) (hH : w.heap.size ≤ H) (hX : X'.map (·.block) = some H) : RovO w X' N r :=
 ⟨h.nums, fun i y hy => (h.rd i y hy).1.new hH hX, fun hn a e g hg e2 => by
  obtain ⟨b, off, e3, h1, _⟩ := h.nums.mem hn
  rw [e3] at e; injection e with e; subst e
  rw [hX] at hg
  injection hg with hg
  have : b = g := e2
  omega⟩
theorem GrR.rov {w : World} {lo c N : Nat} {A X : Option Addr} {l : List Rv} {f : Nat → Rat} (h : GrR w lo A c N l f 28500000000) (hf : Fresh lo l) (hX : ∀ x, X = some x → x.block < lo) : RovO w X N ⟨A, c, l, f⟩ := by
 refine ⟨h.own.nums, fun i y hy => ⟨(h.rd i y hy).1, fun g hg => ?_⟩, fun hn a e g hg e2 => ?_⟩
 ·
  cases X with
  | none => cases hg
  |
   some x =>
   injection hg with hg
   have h1 := hX x rfl
   have h2 : x.block = g := hg
   have h3 := hf y (List.mem_of_getElem? hy)
   exact ⟨fun a hn e e2 => by have := h3.1 hn a e; omega, fun a hn e e2 => by have := h3.2 hn a e; omega⟩
 ·
  cases X with
  | none => cases hg
  |
   some x =>
   injection hg with hg
   have h1 := hX x rfl
   have h2 : x.block = g := hg
   have h4 : A = some a := e
   have := (h.own.lt a h4).1
   omega
structure MatO (w : World) (lo : Nat) (A : Option Addr) (c m N : Nat) (R : List Rov) : Prop where
 len : R.length = m
 own : w.ownsRow lo 29 1 (.slice A m c) m (R.map fun r => .slice r.A N r.c)
 rd : ∀ r ∈ R, RovO w A N r
theorem MatO.nil_ (w : World) (lo N : Nat) : MatO w lo none 0 0 N [] := ⟨rfl, World.ownsRow_nil w lo _ 1, fun r hr => by cases hr⟩
theorem MatO.lt {w : World} {lo c m N : Nat} {A : Option Addr} {R : List Rov} (h : MatO w lo A c m N R) : ∀ ad, A = some ad → lo ≤ ad.block ∧ ad.block < w.heap.size := by
 intro ad e
 subst e
 exact h.own.lt ad.block rfl
theorem MatO.below {w w' : World} {lo c m N : Nat} {A : Option Addr} {R : List Rov} (h : MatO w lo A c m N R) (hb : Below w.heap.size w w') : MatO w' lo A c m N R := by
 refine ⟨h.len, h.own.kept (grown_of_below hb) ?_, fun r hr => (h.rd r hr).below hb⟩
 cases A with
 | none => left; rfl
 | some ad => right; exact fun e => by cases e
theorem MatO.lower {w : World} {lo lo' c m N : Nat} {A : Option Addr} {R : List Rov} (h : MatO w lo A c m N R) (hl : lo' ≤ lo) : MatO w lo' A c m N R := by
 refine ⟨h.len, ⟨h.own.1, ?_⟩, h.rd⟩
 rcases h.own.2 with hn | ⟨g, cap, cur, hv, hb, rest⟩
 · exact .inl hn
 · exact .inr ⟨g, cap, cur, hv, by omega, rest⟩
theorem MatO.form {w : World} {lo c m N : Nat} {A : Option Addr} {R : List Rov} (h : MatO w lo A c m N R) (hm : 0 < m) : ∃ g, A = some ⟨g, 0, none⟩ ∧ lo ≤ g ∧ g < w.heap.size ∧ ∀ i r, R[i]? = some r → w.cell? ⟨g, i, none⟩ = some (.slice r.A N r.c) := by
 rcases h.own.2 with ⟨_, h0⟩ | ⟨g, cap, cur, hv, hb, hh, hc, hm', hs, ht⟩
 · omega
 ·
  injection hv with hA _ _
  refine ⟨g, hA, hb, ?_, fun i r hr => ?_⟩
  ·
   rcases Nat.lt_or_ge g w.heap.size with h1 | h1
   · exact h1
   ·
    have : w.heap[g]? = none := Array.getElem?_eq_none h1
    rw [this] at hh; cases hh
  ·
   have hi : i < m := by rw [← h.len]; exact (List.getElem?_eq_some_iff.1 hr).1
   have e1 : w.cell? ⟨g, i, none⟩ = cur[i]? := by simp [World.cell?, hh]
   have e2 : (R.map fun r => Value.slice r.A N r.c)[i]? = some (.slice r.A N r.c) := by rw [List.getElem?_map, hr]; rfl
   rw [e1, ← e2, ← ht, List.getElem?_take, if_pos (by omega), Array.getElem?_toList]
theorem MatO.mat {w : World} {lo c m N : Nat} {A : Option Addr} {R : List Rov} (h : MatO w lo A c m N R) : Mat w A m N R := by
 refine ⟨h.len, fun hm => ?_, fun r hr => (h.rd r hr).vec⟩
 obtain ⟨g, e, _, h1, hc⟩ := h.form hm
 exact ⟨g, 0, e, h1, fun i r hr => by rw [Nat.zero_add]; exact hc i r hr⟩
theorem MatO.set {w : World} {lo c m N g j : Nat} {R : List Rov} {r : Rov} (h : MatO w lo (some ⟨g, 0, none⟩) c m N R) (hr : RovO w (some ⟨g, 0, none⟩) N r) :
  MatO (w.setCell ⟨g, j, none⟩ (.slice r.A N r.c)) lo (some ⟨g, 0, none⟩) c m N (R.set j r) := by
 have hs := h.own.stored j (.slice r.A N r.c)
 refine ⟨by rw [List.length_set, h.len], ?_, fun q hq => ?_⟩
 ·
  rw [List.map_set]
  exact hs.1
 ·
  rcases List.mem_or_eq_of_mem_set hq with hq | rfl
  · exact (h.rd q hq).grown hs.2
  · exact hr.grown hs.2
theorem wpm_append {w : World} {ops : Array Oper} {rest : List Oper} {o : Oper} {a : Act} {Q : Exit → Act → World → Prop} (hgd : o.guard = none) (s x : Operand)
  (ho : o.op = .call { callee := .builtin .append, args := #[s, x], argTypes := #[66, 66] })
  {A : Option Addr} {b lo m c c' N : Nat} {R : List Rov} {r : Rov} (hs : a.eval s = .slice A m c) (hx : a.eval x = .slice (some ⟨b, 0, none⟩) 1 c')
  (h1 : MatO w lo A c m N R) (h2 : w.cell? ⟨b, 0, none⟩ = some (.slice r.A N r.c)) (hq : RovO w A N r) (hm : m + 1 ≤ 2000000) (hlo : lo ≤ w.heap.size)
  (h : ∀ A2 c2 w', MatO w' lo A2 c2 (m + 1) N (R ++ [r]) → w.grownBy w' (A.map (·.block)) → (A2.map (·.block) = A.map (·.block) ∨ A2.map (·.block) = some w.heap.size) → wpList Tryz.prog ops Q rest (a.put o.dst (.slice A2 (m + 1) c2)) w') :
  wpList Tryz.prog ops Q (o :: rest) a w := by
 obtain ⟨i0, hi, hsz⟩ := Option.map_eq_some_iff.1 Tryz.info29
 have hz : i0.zero = some (.slice none 0 0) := by
  have := Tryz.zero29
  rw [hi] at this
  exact this
 injection hsz with hsz1 hsz2
 have eb : (Value.slice A m c).ownBlock = A.map (·.block) := by cases A <;> rfl
 refine wpList_append_lies (w := w) hgd s x _ ho lo 29 i0 _ 1 24 Tryz.underlying66 hi hz hsz1 hsz2 rfl (by omega) _ m _ hs h1.own ⟨b, 0, none⟩ 1 c' [.slice r.A N r.c] hx rfl ?_ ?_ (by omega) (by unfold maxLen; omega) (by omega) hlo w.heap.size rfl ?_
 ·
  intro j u hu
  have hj : j < 1 := (List.getElem?_eq_some_iff.1 hu).1
  obtain rfl : j = 0 := by omega
  injection hu with hu; subst hu; exact h2
 ·
  intro u hu
  rw [List.mem_singleton.1 hu]; rfl
 ·
  intro g cap w' ho' hg' hwhere _
  rw [eb] at hg' hwhere
  have hw2 : (some (⟨g, 0, none⟩ : Addr)).map (·.block) = A.map (·.block) ∨ (some (⟨g, 0, none⟩ : Addr)).map (·.block) = some w.heap.size := by
   rcases hwhere with h | h
   · exact .inl h.symm
   · exact .inr (by rw [h]; rfl)
  have hmove : ∀ q : Rov, RovO w A N q → RovO w' (some ⟨g, 0, none⟩) N q := fun q hq => by
   have h3 := hq.grown hg'
   rcases hw2 with h4 | h4
   · exact ⟨h3.nums, fun i y hy => ⟨(h3.rd i y hy).1, fun p hp => (h3.rd i y hy).2 p (h4 ▸ hp)⟩, fun hn a e p hp => h3.ne hn a e p (h4 ▸ hp)⟩
   ·
    have h5 := hq.new (Nat.le_refl _) h4
    exact ⟨h3.nums, fun i y hy => ⟨(h3.rd i y hy).1, (h5.rd i y hy).2⟩, h5.ne⟩
  refine h _ _ w' ⟨by rw [List.length_append, h1.len]; rfl, by rw [List.map_append]; exact ho', fun q hq' => ?_⟩ hg' hw2
  rcases List.mem_append.1 hq' with h6 | h6
  · exact hmove q (h1.rd q h6)
  · rw [List.mem_singleton.1 h6]; exact hmove r hq
end Go.Proofs.YtgffkaconhonlaaGreat

namespace Go.Proofs.YtgffkaconhonlaaGreat
set_option maxRecDepth 20000
open Go.RowKit
structure Cin where
 v : Cv
 L : List (Int × Rat)
 k : Rat
 ok : Bool
structure Cns (w : World) (A : Option Addr) (m : Nat) (n : Nat) (Pe : (Nat → Rat) → Prop) (vs : List Cin) : Prop where
 len : vs.length = m
 mem : 0 < m → ∃ b o, A = some ⟨b, o, none⟩ ∧ b < w.heap.size ∧ ∀ i x, vs[i]? = some x → At5 w b (o + i * 5) x.v
 rd : ∀ x ∈ vs, Cw w x.v x.L x.k 28500000000 ∧ x.v.n ≤ 1000
 fit : ∀ x ∈ vs, x.ok = true → (∀ y ∈ x.L, 0 ≤ y.1 ∧ y.1 < (n : Int)) ∧ Pe (rowF n x.L x.k)
 is_ : ∀ x ∈ vs, ∀ w', Below w.heap.size w w' → Calls Tryz.prog 26 #[.agg #[.int .i64 x.v.s, .slice x.v.A x.v.n x.v.c, .bool x.v.K.s, .slice x.v.K.A x.v.K.n x.v.K.c, .slice x.v.K.B x.v.K.m x.v.K.d], .int .i64 (n : Int)] w' fun e w2 => e = .returned (.bool x.ok) ∧ Below w'.heap.size w' w2
def rowsOf (n : Nat) (vs : List Cin) : List (Nat → Rat) := (vs.filter (·.ok)).map fun x => rowF n x.L x.k
def solTo (n : Nat) (vs : List Cin) (i : Nat) : List (Nat → Rat) × Bool := solveS n (rowsOf n (vs.take i)) [] true
theorem solveS_snoc (n : Nat) (e : Nat → Rat) : ∀ (S R : List (Nat → Rat)) (ok : Bool), solveS n (S ++ [e]) R ok = stepS n (solveS n S R ok).1 (solveS n S R ok).2 e
 | [], _, _ => rfl
 | s :: S, R, ok => solveS_snoc n e S (stepS n R ok s).1 (stepS n R ok s).2
theorem solTo_yes {n i : Nat} {vs : List Cin} {x : Cin} (h : vs[i]? = some x) (hx : x.ok = true) : solTo n vs (i + 1) = stepS n (solTo n vs i).1 (solTo n vs i).2 (rowF n x.L x.k) := by
 have e : vs.take (i + 1) = vs.take i ++ [x] := by rw [List.take_add_one, h]; rfl
 have e2 : rowsOf n (vs.take (i + 1)) = rowsOf n (vs.take i) ++ [rowF n x.L x.k] := by
  unfold rowsOf
  rw [e, List.filter_append, List.map_append]
  simp [hx]
 unfold solTo
 rw [e2, solveS_snoc]
theorem solTo_no {n i : Nat} {vs : List Cin} {x : Cin} (h : vs[i]? = some x) (hx : x.ok = false) : solTo n vs (i + 1) = solTo n vs i := by
 have e : vs.take (i + 1) = vs.take i ++ [x] := by rw [List.take_add_one, h]; rfl
 have e2 : rowsOf n (vs.take (i + 1)) = rowsOf n (vs.take i) := by
  unfold rowsOf
  rw [e, List.filter_append, List.map_append]
  simp [hx]
 unfold solTo
 rw [e2]
theorem solTo_inv (n : Nat) (vs : List Cin) (i : Nat) : Inv n (rowsOf n (vs.take i)) (solTo n vs i).1 (solTo n vs i).2 := by
 have := solveS_inv (n := n) (rowsOf n (vs.take i)) [] [] true (Inv.nil n)
 rwa [List.nil_append] at this
structure SolSz (n : Nat) (Pe : (Nat → Rat) → Prop) (vs : List Cin) : Prop where
 rows : ∀ i, ∀ r ∈ (solTo n vs i).1, SzR n 5000000000 r
 left : ∀ i e, Pe e → ∀ j, SzR n 27000000000 (red n ((solTo n vs i).1.take j) e)
 row : ∀ e, Pe e → SzR n 5000000000 e
theorem solTo_fd {n E : Nat} {vs : List Cin} (hf : ∀ x ∈ vs, x.ok = true → FrR n E (rowF n x.L x.k)) : ∀ i, AllFd n E (solTo n vs i).1
 | 0 => AllFd.nil n E
 |
  i + 1 => by
  cases hx : vs[i]? with
  |
   none =>
   have h1 : vs.length ≤ i := List.getElem?_eq_none_iff.1 hx
   have e : solTo n vs (i + 1) = solTo n vs i := by
    unfold solTo
    rw [List.take_of_length_le h1, List.take_of_length_le (by omega)]
   rw [e]
   exact solTo_fd hf i
  |
   some x =>
   cases hk : x.ok with
   | false => rw [solTo_no hx hk]; exact solTo_fd hf i
   |
    true =>
    rw [solTo_yes hx hk]
    exact (solTo_fd hf i).step (solTo_inv n vs i).good (hf x (List.mem_of_getElem? hx) hk)
theorem SolSz.fr {n E e : Nat} {vs : List Cin} (hn : n ≤ 1000) (h1 : 1 ≤ E) (hE : E ≤ 4294967296 ^ e) (hbig : 2 ^ n * (e + 1) + e + 3 ≤ 5000000000) (hf : ∀ x ∈ vs, x.ok = true → FrR n E (rowF n x.L x.k)) : SolSz n (FrR n E) vs := by
 have hpw : ∀ {x a b : Nat}, x ≤ 4294967296 ^ a → a < b → Bd x b := fun {x a b} h hb => by
  unfold Bd
  exact Nat.lt_of_le_of_lt h (Nat.pow_lt_pow_right (by omega) hb)
 have hx : (2 ^ n - 1) * (e + 1) ≤ 2 ^ n * (e + 1) := Nat.mul_le_mul_right _ (Nat.sub_le _ _)
 have hbn := bdM_bd hE n hn
 have hlen : ∀ i, (solTo n vs i).1.length ≤ n := fun i => (solTo_inv n vs i).good.len
 have hM : ∀ i, bdM E (solTo n vs i).1.length ≤ 4294967296 ^ ((2 ^ n - 1) * (e + 1)) := fun i => Nat.le_trans (bdM_mono h1 (hlen i)) hbn
 generalize (2 ^ n - 1) * (e + 1) = X at *
 generalize 2 ^ n * (e + 1) = Y at *
 refine ⟨fun i r hr => ?_, fun i f hf' j => ?_, fun f hf' => ?_⟩
 ·
  obtain ⟨D, g1, g2, g3⟩ := solTo_fd hf i
  exact fun q hq => ((g3 r hr q hq).sz g1 g2 (hpw (hM i) (Nat.lt_succ_self X))).more (by omega)
 ·
  obtain ⟨D, g1, g2, g3⟩ := (solTo_fd hf i).left (fun r hr => Nat.le_of_lt ((solTo_inv n vs i).good.lt r hr)) (solTo_inv n vs i).good.two hf' j
  have h2 := hM i
  have h3 := hlen i
  generalize bdM E (solTo n vs i).1.length = M at *
  generalize (solTo n vs i).1.length = p at *
  have h4 : (p + 1) * (E * M) ≤ 4294967296 ^ (1 + e + X) := by
   rw [Nat.pow_add, Nat.pow_add, Nat.mul_assoc]
   exact Nat.mul_le_mul (by omega) (Nat.mul_le_mul hE h2)
  have h5 : D ≤ (p + 1) * (E * M) := Nat.le_trans g2 (Nat.le_mul_of_pos_left _ (by omega))
  exact fun q hq => ((g3 q hq).sz g1 h5 (hpw h4 (Nat.lt_succ_self _))).more (by omega)
 ·
  obtain ⟨d, g1, g2, g3⟩ := hf'
  exact fun q hq => ((g3 q hq).sz g1 g2 (hpw hE (Nat.lt_succ_self e))).more (by omega)
end Go.Proofs.YtgffkaconhonlaaGreat

namespace Go.Proofs.YtgffkaconhonlaaGreat
set_option maxRecDepth 20000
open Go.RowKit
structure SolAt (w wr : World) (n N i : Nat) (vs : List Cin) (B : Option Addr) (d p : Nat) (R : List Rov) : Prop where
 mat : MatO wr w.heap.size B d p N R
 eq : R.map (·.f) = (solTo n vs i).1
 below : Below w.heap.size w wr
theorem SolAt.len {w wr : World} {n N i : Nat} {vs : List Cin} {B : Option Addr} {d p : Nat} {R : List Rov} (h : SolAt w wr n N i vs B d p R) : p = (solTo n vs i).1.length := by
 rw [← h.eq, List.length_map, h.mat.len]
theorem SolAt.le {w wr : World} {n N i : Nat} {vs : List Cin} {B : Option Addr} {d p : Nat} {R : List Rov} (h : SolAt w wr n N i vs B d p R) : p ≤ n := by
 rw [h.len]; exact (solTo_inv n vs i).good.len
theorem SolAt.skip {w wr w2 : World} {n N i : Nat} {vs : List Cin} {B : Option Addr} {d p : Nat} {R : List Rov} (h : SolAt w wr n N i vs B d p R) {x : Cin} (hx : vs[i]? = some x) (hk : x.ok = false) (hb : Below wr.heap.size wr w2) : SolAt w w2 n N (i + 1) vs B d p R :=
 ⟨h.mat.below hb, by rw [solTo_no hx hk]; exact h.eq, h.below.trans (hb.mono h.below.size)⟩
theorem SolAt.sizes {w wr : World} {n N i : Nat} {Pe : (Nat → Rat) → Prop} {vs : List Cin} {B : Option Addr} {d p : Nat} {R : List Rov} (h : SolAt w wr n N i vs B d p R) (hN : N = n + 1) (hS : SolSz n Pe vs) {e : Nat → Rat} (he0 : Pe e) :
  ∀ j r, R[j]? = some r → ∀ q, q < N → Sz (redTo n R j e (lead n r.f) * r.f q) 28500000000 ∧ Sz (redTo n R (j + 1) e q) 28500000000 := by
 have hg := (solTo_inv n vs i).good
 have hs := hS.rows i
 have he := hS.row e he0
 have key : ∀ j, SzR n 27000000000 (redTo n R j e) := fun j => by
  have h1 := hS.left i e he0 j
  rw [← h.eq, ← List.map_take] at h1
  exact h1
 rw [← h.eq] at hg hs
 intro j r hr q hq
 have hrm : r.f ∈ R.map (·.f) := List.mem_map.2 ⟨r, List.mem_of_getElem? hr, rfl⟩
 have hl := hg.lt r.f hrm
 refine ⟨?_, (key (j + 1) q (by omega)).more (by omega)⟩
 have e1 : redTo n R j e (lead n r.f) = e (lead n r.f) := by
  have h4 : ∀ (T : List (Nat → Rat)) (a : Nat → Rat), (∀ s ∈ T, s (lead n r.f) = 0) → red n T a (lead n r.f) = a (lead n r.f) := by
   intro T
   induction T with
   | nil => intro a _; rfl
   |
    cons s T ih =>
    intro a h5
    show red n T (lss a s _) _ = _
    rw [ih _ fun s' hs' => h5 s' (List.mem_cons_of_mem _ hs')]
    show a _ - _ * s _ = _
    rw [h5 s List.mem_cons_self, Rat.mul_zero, sub_nil]
  refine h4 _ _ fun s hs' => ?_
  obtain ⟨hlt, hr'⟩ := List.getElem?_eq_some_iff.1 hr
  have h6 : (R.map (·.f)).Pairwise fun r s => s (lead n r) = 0 ∧ r (lead n s) = 0 := hg.two
  have h7 : R.map (·.f) = (R.take j).map (·.f) ++ r.f :: (R.drop (j + 1)).map (·.f) := by
   rw [← hr', ← List.map_cons, ← List.drop_eq_getElem_cons hlt, ← List.map_append, List.take_append_drop]
  rw [h7] at h6
  exact ((List.pairwise_append.1 h6).2.2 s hs' r.f List.mem_cons_self).2
 rw [e1]
 exact ((he _ (Nat.le_of_lt hl)).mul (hs r.f hrm q (by omega))).more (by omega)
theorem SolAt.none {w wr w2 : World} {n N i : Nat} {vs : List Cin} {B : Option Addr} {d p : Nat} {R : List Rov} (h : SolAt w wr n N i vs B d p R) {b : Bool} (hb : b = (solTo n vs i).2) {x : Cin} (hx : vs[i]? = some x) (hk : x.ok = true) {fa : Nat → Rat} (hfa : fa = red n (R.map (·.f)) (rowF n x.L x.k)) (hl : n = lead n fa) (hw : Below wr.heap.size wr w2) :
  (b && decide (fa n = 0)) = (solTo n vs (i + 1)).2 ∧ SolAt w w2 n N (i + 1) vs B d p R := by
 have e : solTo n vs (i + 1) = ((solTo n vs i).1, (solTo n vs i).2 && decide (fa n = 0)) := by
  rw [solTo_yes hx hk, stepS, ← h.eq, ← hfa, if_pos hl.symm]
 refine ⟨by rw [e, hb], h.mat.below hw, by rw [e]; exact h.eq, h.below.trans (hw.mono h.below.size)⟩
theorem SolAt.lead_sz {w wr : World} {n N i : Nat} {Pe : (Nat → Rat) → Prop} {vs : List Cin} {B : Option Addr} {d p : Nat} {R : List Rov} (h : SolAt w wr n N i vs B d p R) (hN : N = n + 1) (hf : ∀ x ∈ vs, x.ok = true → Pe (rowF n x.L x.k)) (hS : SolSz n Pe vs) {x : Cin} (hx : vs[i]? = some x) (hok : x.ok = true) {fa : Nat → Rat} (hfa : fa = red n (R.map (·.f)) (rowF n x.L x.k)) {k : Nat} (hk : k = lead n fa) (hne : ¬ k = n) :
  (∀ j, j < N → Sz (fa j * (1 / fa k)) 5000000000) ∧ Sz (1 / fa k) 28500000000 := by
 have hr := hS.left i _ (hf x (List.mem_of_getElem? hx) hok) (solTo n vs i).1.length
 rw [List.take_length, ← h.eq, ← hfa] at hr
 have hkn : k < n := by have := lead_le n fa; omega
 have ha : fa k ≠ 0 := by rw [hk]; exact lead_ne (by omega)
 have hc := inv_sz (hr k (Nat.le_of_lt hkn)) ha
 have hrow : tms fa (1 / fa k) ∈ (solTo n vs (i + 1)).1 := by
  rw [solTo_yes hx hok, stepS, ← h.eq, ← hfa, ← hk, if_neg hne]
  exact List.mem_append_right _ (List.mem_singleton.2 rfl)
 exact ⟨fun j hj => hS.rows (i + 1) _ hrow j (by omega), hc.more (by omega)⟩
theorem Cns.fit2 {w : World} {A : Option Addr} {m n : Nat} {Pe : (Nat → Rat) → Prop} {vs : List Cin} (h : Cns w A m n Pe vs) : ∀ x ∈ vs, x.ok = true → Pe (rowF n x.L x.k) := fun x hx hk => (h.fit x hx hk).2
end Go.Proofs.YtgffkaconhonlaaGreat

namespace Go.Proofs.YtgffkaconhonlaaGreat
set_option maxRecDepth 20000
open Go.RowKit
theorem lss_nil (a b : Nat → Rat) : lss a b 0 = a := by
 funext j
 show a j - 0 * b j = a j
 rw [Rat.zero_mul, sub_nil]
def tmsTo (f : Nat → Rat) (c : Rat) (j : Nat) : Nat → Rat := fun i => if i < j then f i * c else f i
def FrTo (lo j : Nat) (l : List Rv) : Prop := ∀ i y, i < j → l[i]? = some y → (0 < y.n → ∀ a, y.A = some a → lo ≤ a.block) ∧ (0 < y.m → ∀ a, y.B = some a → lo ≤ a.block)
structure SolR (W wl : World) (B : Option Addr) (d p N : Nat) (R R' : List Rov) (a : Nat → Rat) (k j : Nat) (q : Rov) : Prop where
 mat : MatO wl W.heap.size B d p N R'
 at_ : ∀ i r, R[i]? = some r → ∃ r', R'[i]? = some r' ∧ r'.f = if i < j then lss r.f a (r.f k) else r.f
 row : RovO wl B N q
 below : Below W.heap.size W wl
theorem SolR.later {W wl w' : World} {B : Option Addr} {d p N k j : Nat} {R R' : List Rov} {a : Nat → Rat} {q : Rov} (h : SolR W wl B d p N R R' a k j q) (hb : Below wl.heap.size wl w') : SolR W w' B d p N R R' a k j q :=
 ⟨h.mat.below hb, h.at_, h.row.below hb, h.below.trans (hb.mono h.below.size)⟩
theorem SolR.start {W wo w2 w5 wr : World} {ba c4 N n i p d k : Nat} {vs : List Cin} {B : Option Addr} {R : List Rov} {l : List Rv} {fa : Nat → Rat} {c : Rat} (h : SolAt W wo n N i vs B d p R) (hb2 : Below wo.heap.size wo w2) (hg : GrR wr w2.heap.size (some ⟨ba, 0, none⟩) c4 N l (tmsTo fa c N) 28500000000) (hb : Below w2.heap.size w2 wr) (hf : FrTo w5.heap.size N l) (h25 : w2.heap.size ≤ w5.heap.size) :
  SolR W wr B d p N R R (tms fa c) k 0 ⟨some ⟨ba, 0, none⟩, c4, l, tms fa c⟩ := by
 have hb3 : Below wo.heap.size wo wr := hb2.trans (hb.mono hb2.size)
 have hfr : Fresh w2.heap.size l := fun y hy => by
  obtain ⟨i, hi, e⟩ := List.getElem_of_mem hy
  have h1 := hf i y (by rw [← hg.own.len]; exact hi) (by rw [List.getElem?_eq_getElem hi, e])
  exact ⟨fun hn a e => Nat.le_trans h25 (h1.1 hn a e), fun hn a e => Nat.le_trans h25 (h1.2 hn a e)⟩
 have hr : RovO wr B N ⟨some ⟨ba, 0, none⟩, c4, l, tmsTo fa c N⟩ := hg.rov hfr fun x e => Nat.lt_of_lt_of_le (h.mat.lt x e).2 hb2.size
 refine ⟨h.mat.below hb3, fun i r hr => ⟨r, hr, by rw [if_neg (by omega)]⟩, hr.congr fun i hi => ?_, h.below.trans (hb3.mono h.below.size)⟩
 show tmsTo fa c N i = tms fa c i
 unfold tmsTo tms
 rw [if_pos hi]
theorem SolR.skip {W wl w' : World} {B : Option Addr} {d p N k j : Nat} {R R' : List Rov} {a : Nat → Rat} {q r : Rov} (h : SolR W wl B d p N R R' a k j q) (hr : R[j]? = some r) (hz : r.f k = 0) (hb : Below wl.heap.size wl w') : SolR W w' B d p N R R' a k (j + 1) q := by
 refine ⟨h.mat.below hb, fun i r1 h1 => ?_, h.row.below hb, h.below.trans (hb.mono h.below.size)⟩
 obtain ⟨r', hr', e⟩ := h.at_ i r1 h1
 refine ⟨r', hr', ?_⟩
 by_cases e1 : i = j
 ·
  subst e1
  rw [hr] at h1
  injection h1 with h1
  subst h1
  rw [if_neg (by omega)] at e
  rw [if_pos (by omega), hz, lss_nil, e]
 ·
  by_cases e2 : i < j
  ·
   rw [if_pos e2] at e
   rw [if_pos (by omega), e]
  ·
   rw [if_neg e2] at e
   rw [if_neg (by omega), e]
theorem SolR.put {W wl w' : World} {g d p N k j lo c2 : Nat} {A2 : Option Addr} {l2 : List Rv} {R R' : List Rov} {a : Nat → Rat} {q r : Rov} (h : SolR W wl (some ⟨g, 0, none⟩) d p N R R' a k j q) (hr : R[j]? = some r) (hb : Below wl.heap.size wl w') (hg : GrR w' lo A2 c2 N l2 (fun i => r.f i - r.f k * a i) 28500000000) (hf : Fresh lo l2) (hlo : wl.heap.size ≤ lo) :
  SolR W (w'.setCell ⟨g, j, none⟩ (.slice A2 N c2)) (some ⟨g, 0, none⟩) d p N R (R'.set j ⟨A2, c2, l2, lss r.f a (r.f k)⟩) a k (j + 1) q := by
 have hgl := h.mat.lt ⟨g, 0, none⟩ rfl
 have hv : RovO w' (some ⟨g, 0, none⟩) N ⟨A2, c2, l2, lss r.f a (r.f k)⟩ := hg.rov hf fun x e => by
  injection e with e
  subst e
  exact Nat.lt_of_lt_of_le hgl.2 hlo
 refine ⟨(h.mat.below hb).set hv, fun i r1 h1 => ?_, (h.row.below hb).grown (gput_grown w' g j _), by
  have h9 : W.heap.size ≤ g := hgl.1
  exact (h.below.trans (hb.mono h.below.size)).setCell h9 _⟩
 obtain ⟨r', hr', e⟩ := h.at_ i r1 h1
 rw [List.getElem?_set]
 by_cases e1 : j = i
 ·
  subst e1
  rw [hr] at h1
  injection h1 with h1
  subst h1
  rw [if_pos rfl, if_pos (List.getElem?_eq_some_iff.1 hr').1]
  exact ⟨_, rfl, by rw [if_pos (by omega)]⟩
 ·
  rw [if_neg e1]
  refine ⟨r', hr', ?_⟩
  by_cases e2 : i < j
  ·
   rw [if_pos e2] at e
   rw [if_pos (by omega), e]
  ·
   rw [if_neg e2] at e
   rw [if_neg (by omega), e]
theorem SolR.last {W wl : World} {B : Option Addr} {d p N k : Nat} {R R' : List Rov} {a : Nat → Rat} {q : Rov} (h : SolR W wl B d p N R R' a k p q) (hR : R.length = p) : R'.map (·.f) = (R.map (·.f)).map fun r => lss r a (r k) := by
 refine List.ext_getElem? fun i => ?_
 rw [List.getElem?_map, List.getElem?_map, List.getElem?_map]
 cases hr : R[i]? with
 |
  none =>
  have h1 : R'[i]? = none := by
   rw [List.getElem?_eq_none_iff, h.mat.len, ← hR]
   exact List.getElem?_eq_none_iff.1 hr
  rw [h1]; rfl
 |
  some r =>
  obtain ⟨r', h1, h2⟩ := h.at_ i r hr
  rw [h1]
  show some r'.f = some _
  rw [h2, if_pos (by rw [← hR]; exact (List.getElem?_eq_some_iff.1 hr).1)]
theorem SolR.done {W wo wl w9 : World} {n N i d p k c2 : Nat} {vs : List Cin} {B A2 : Option Addr} {R R' : List Rov} {fa : Nat → Rat} {q : Rov} {x : Cin} {b : Bool} (hS : SolAt W wo n N i vs B d p R) (hb : b = (solTo n vs i).2) (h : SolR W wl B d p N R R' (tms fa (1 / fa k)) k p q) (hq : q.f = tms fa (1 / fa k)) (hx : vs[i]? = some x) (hok : x.ok = true) (hfa : fa = red n (R.map (·.f)) (rowF n x.L x.k)) (hk : k = lead n fa) (hne : ¬ k = n)
  (hm : MatO w9 W.heap.size A2 c2 (p + 1) N (R' ++ [q])) (hw : Below W.heap.size W w9) : b = (solTo n vs (i + 1)).2 ∧ SolAt W w9 n N (i + 1) vs A2 c2 (p + 1) (R' ++ [q]) := by
 have e : solTo n vs (i + 1) = ((R.map (·.f)).map (fun r => lss r (tms fa (1 / fa k)) (r k)) ++ [tms fa (1 / fa k)], (solTo n vs i).2) := by
  rw [solTo_yes hx hok, stepS, ← hS.eq, ← hfa, ← hk, if_neg hne]
 refine ⟨by rw [e]; exact hb, hm, ?_, hw⟩
 rw [e, List.map_append, h.last hS.mat.len, List.map_singleton, hq]
theorem SolAt.row_sz {w wr : World} {n N i : Nat} {Pe : (Nat → Rat) → Prop} {vs : List Cin} {B : Option Addr} {d p : Nat} {R : List Rov} (h : SolAt w wr n N i vs B d p R) (hN : N = n + 1) (hf : ∀ x ∈ vs, x.ok = true → Pe (rowF n x.L x.k)) (hS : SolSz n Pe vs) {x : Cin} (hx : vs[i]? = some x) (hok : x.ok = true) {fa : Nat → Rat} (hfa : fa = red n (R.map (·.f)) (rowF n x.L x.k)) {k : Nat} (hk : k = lead n fa) (hne : ¬ k = n) :
  ∀ r ∈ R, ∀ j, j < N → Sz (r.f k * tms fa (1 / fa k) j) 28500000000 ∧ Sz (r.f j - r.f k * tms fa (1 / fa k) j) 28500000000 := by
 intro r hr j hj
 have h1 := (h.lead_sz hN hf hS hx hok hfa hk hne).1 j hj
 have hs := hS.rows i
 rw [← h.eq] at hs
 have h2 := hs r.f (List.mem_map.2 ⟨r, hr, rfl⟩)
 have hkn : k ≤ n := by rw [hk]; exact lead_le n fa
 have h4 := (h2 k hkn).mul h1
 exact ⟨h4.more (by omega), ((h2 j (by omega)).sub h4).more (by omega)⟩
end Go.Proofs.YtgffkaconhonlaaGreat
