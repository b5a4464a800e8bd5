/-
  May a constraint tell a variable, by the program.
  May a constraint tell a variable, by the program.
-/
import Derived.Test.YtjbhhccklfddaaaVDlJ
import Derived.OrdersHeld
import Derived.Test.YtjbhhccklfddaaaVRgn
namespace Go.Proofs.Ytjbhhccklfddaaa
set_option maxRecDepth 20000
open Go.RowKit
set_option maxHeartbeats 3200000 in
theorem isOf_c (x : Tv) (X : Nat) (v : Int) (w : World) (hX : w.cell? ⟨X, 0, none⟩ = some (.int .i64 v)) :
  Calls Try.prog 58 #[.agg #[.int .i64 x.v, .bool x.r.s, .slice x.r.A x.r.n x.r.c, .slice x.r.B x.r.m x.r.d], .pointer (some ⟨X, 0, none⟩)] w fun e w' => e = .returned (.bool (x.v == v)) ∧ Below w.heap.size w w' := by
 have hl := cell_lt hX
 have hX2 : (w.alloc (.cells #[.int .i64 x.v, .bool x.r.s, .slice x.r.A x.r.n x.r.c, .slice x.r.B x.r.m x.r.d] 40)).cell? ⟨X, 0, none⟩ = some (.int .i64 v) := (((Below.refl w.heap.size w).alloc (Nat.le_refl _) (.cells #[.int .i64 x.v, .bool x.r.s, .slice x.r.A x.r.n x.r.c, .slice x.r.B x.r.m x.r.d] 40)).cell hl).trans hX
 have HB : Hid (Below w.heap.size w (w.alloc (.cells #[.int .i64 x.v, .bool x.r.s, .slice x.r.A x.r.n x.r.c, .slice x.r.B x.r.m x.r.d] 40))) := (Below.refl _ _).alloc (Nat.le_refl _) _
 obtain ⟨z0, z1, z2, z3⟩ := At4.new w x
 clear hX hl
 go_enter Try.func58, Try.ntmps58
 go_wp2
 go_ret
 exact ⟨rfl, HB.out⟩
set_option maxHeartbeats 3200000 in
theorem IndexFunc_c (A : Option Addr) (n c : Nat) (la : List Tv) (X : Nat) (v : Int) (w : World) (ha : Tms w 0 A n la) (hn : n ≤ 1000) (hX : w.cell? ⟨X, 0, none⟩ = some (.int .i64 v)) :
  Calls Try.prog 74 #[.slice A n c, .func (.func 58) #[] #[.pointer (some ⟨X, 0, none⟩)]] w fun e w' => ∃ k : Int, e = .returned (.int .i64 k) ∧ (0 ≤ k ↔ ∃ x ∈ la, x.v = v) ∧ Below w.heap.size w w' := by
 have n0 : (0 : Int) ≤ (n : Int) := by omega
 have HD := Lib.hid (And.intro ha (And.intro hX (cell_lt hX)))
 clear ha hX
 have HR0 : Hid ((∀ j x, j < 0 → la[j]? = some x → x.v ≠ v) ∧ Below w.heap.size w w) := ⟨fun j x hj => absurd hj (Nat.not_lt_zero _), Below.refl _ _⟩
 go_enter Try.func74, Try.ntmps74
 go_wp2
 go_loopw [5, 8] (fun _ iv wr => ∃ i : Nat, i ≤ n ∧ iv = .int .i64 i ∧ Hid ((∀ j x, j < i → la[j]? = some x → x.v ≠ v) ∧ Below w.heap.size w wr)) (fun _ iv _ => n - (intOf iv).toNat)
 case atStart => exact ⟨0, Nat.zero_le _, rfl, HR0⟩
 case round =>
  clear HR0
  obtain ⟨i, hi, rfl, HR⟩ := hrel
  have i0 : (0 : Int) ≤ (i : Int) := by omega
  by_cases hlt : i < n
  ·
   have i1 : (i : Int) < (n : Int) := by omega
   obtain ⟨g, off, hA, _, hg, hc⟩ := (HD.out.1.below HR.out.2).mem (by omega)
   have hil : i < la.length := by rw [HD.out.1.len]; exact hlt
   have hx := List.getElem?_eq_getElem hil
   obtain ⟨y0, y1, y2, y3⟩ := hc i _ hx
   obtain ⟨x, hxe⟩ : ∃ x, x = la[i] := ⟨_, rfl⟩
   rw [← hxe] at y0 y1 y2 y3 hx
   have HX := Lib.hid hx
   rw [hA]
   clear hxe hc hx hil
   go_wp2_with fail
   clear y0 y1 y2 y3
   refine (isOf_c x X v wr ((HR.out.2.cell HD.out.2.2).trans HD.out.2.1)).mono ?_
   rintro e w2 ⟨rfl, hb⟩
   have HB : Hid (Below w.heap.size w w2) := HR.out.2.trans (hb.mono HR.out.2.size)
   clear hb
   by_cases hxv : x.v = v
   ·
    have HY : Hid (∃ x ∈ la, x.v = v) := ⟨x, List.mem_of_getElem? HX.out, hxv⟩
    rw [show (x.v == v) = true from beq_iff_eq.2 hxv]
    clear hxv
    go_wp2
    go_ret
    exact ⟨i, rfl, ⟨fun _ => HY.out, fun _ => by omega⟩, HB.out⟩
   ·
    have HS : Hid ((∀ j x, j < i + 1 → la[j]? = some x → x.v ≠ v) ∧ Below w.heap.size w w2) := ⟨fun j y hj hy => by
     by_cases e : j = i
     · subst e; rw [HX.out] at hy; injection hy with hy; rw [← hy]; exact hxv
     · exact HR.out.1 j y (by omega) hy, HB.out⟩
    rw [show (x.v == v) = false from beq_eq_false_iff_ne.2 hxv]
    clear hxv
    go_wp2
    go_roundw
    case rel => exact ⟨i + 1, by omega, by go_num, HS⟩
    case measure => simp [intOf]; omega
  ·
   have i1 : ¬ (i : Int) < (n : Int) := by omega
   have HN : Hid (¬ ∃ x ∈ la, x.v = v) := fun ⟨x, hx, e⟩ => by
    obtain ⟨j, hj, e2⟩ := List.getElem_of_mem hx
    exact HR.out.1 j x (by have := HD.out.1.len; omega) (by rw [List.getElem?_eq_getElem hj, e2]) e
   go_wp2
   go_ret
   exact ⟨-1, rfl, ⟨fun h => by omega, fun h => absurd h HN.out⟩, HR.out.2⟩
theorem ContainsFunc_c (A : Option Addr) (n c : Nat) (la : List Tv) (X : Nat) (v : Int) (w : World) (ha : Tms w 0 A n la) (hn : n ≤ 1000) (hX : w.cell? ⟨X, 0, none⟩ = some (.int .i64 v)) :
  Calls Try.prog 59 #[.slice A n c, .func (.func 58) #[] #[.pointer (some ⟨X, 0, none⟩)]] w fun e w' => BPost (∃ x ∈ la, x.v = v) e ∧ Below w.heap.size w w' := by
 have HD := Lib.hid (And.intro ha hX)
 clear ha hX
 go_enter Try.func59, Try.ntmps59
 go_wp2_with fail
 refine (IndexFunc_c A n c la X v w HD.out.1 hn HD.out.2).mono ?_
 rintro e w2 ⟨k, rfl, hk, hb⟩
 have HK := Lib.hid (And.intro hk hb)
 clear hk hb
 go_wp2
 go_ret
 exact ⟨⟨_, rfl, by rw [decide_eq_true_iff]; exact HK.out.1⟩, HK.out.2⟩
end Go.Proofs.Ytjbhhccklfddaaa

namespace Go.Proofs.Ytjbhhccklfddaaa
set_option maxRecDepth 20000
open Go.RowKit
theorem conU_of {w0 : World} {N : Nat} {A : Option Addr} {ps : List (Cv × List Tv)} (h : Gns w0 A N ps) {i : Nat} {x : Cv × List Tv} (hx : ps[i]? = some x) : ∃ b off, A = some ⟨b, off, none⟩ ∧ b < w0.heap.size ∧ At5 w0 b (off + i * 5) x.1 := by
 have hl := h.len
 have hi := (List.getElem?_eq_some_iff.1 hx).1
 obtain ⟨b, off, e, hbl, hc⟩ := h.kons.mem (by omega)
 exact ⟨b, off, e, hbl, hc i _ (by rw [List.getElem?_map, hx]; rfl)⟩
set_option maxHeartbeats 6400000 in
theorem mayTell_c {w0 : World} {n N : Nat} {A : Option Addr} {cA : Nat} {ps : List (Cv × List Tv)} (hg : Gns w0 A N ps) {i : Nat} {x : Cv × List Tv} (hx : ps[i]? = some x) (hs : IsS w0 x.1 x.2 (n : Int)) (h64 : n ≤ 64) (v : Int) (b : Nat) (vo : Value) (t : Nat → Option Nat) (w : World) (hb0 : Below w0.heap.size w0 w) (hb : ChB w b (.slice A N cA) vo t) :
  Calls Try.prog 44 #[.pointer (some ⟨b, 0, none⟩), .int .i64 (i : Int), .int .i64 v] w fun e w' => BPost (∃ u : Nat, u ∈ x.2.map (fun t => t.v.toNat) ∧ v = (u : Int) ∧ t u = none) e ∧ Below w.heap.size w w' := by
 have hi : i < N := by have := (List.getElem?_eq_some_iff.1 hx).1; have := hg.len; omega
 have N9 := hg.le
 have hin := hg.each x (List.mem_of_getElem? hx)
 have n9 := hin.n
 obtain ⟨bb, off, rfl, hbb, hat⟩ := conU_of hg hx
 have HT : Hid (Tms w 0 x.1.A x.1.n x.2) := hin.row.below hb0
 have i0 : (0 : Int) ≤ (i : Int) := by omega
 have i1 : (i : Int) < (N : Int) := by omega
 have hX : (w.alloc (.cells #[.int .i64 v] 3)).cell? ⟨w.heap.size, 0, none⟩ = some (.int .i64 v) := by rw [World.cell?_alloc_at _ _ _ _ rfl]; rfl
 have HB0 : Hid (Below w.heap.size w (w.alloc (.cells #[.int .i64 v] 3))) := (Below.refl _ _).alloc (Nat.le_refl _) _
 have hzz : (w.alloc (.cells #[.int .i64 v] 3)).heap.size = w.heap.size + 1 := by simp
 have hb' := hb.below HB0.out
 obtain ⟨_, c1, _, _, _⟩ := hat.keep ((HB0.out.block bb (Nat.lt_of_lt_of_le hbb hb0.size)).trans (hb0.block bb hbb))
 have c0 := hb'.cellL
 have hlb : bb < w.heap.size := Nat.lt_of_lt_of_le hbb hb0.size
 have hlb2 := hb.lt
 have HVn : Hid (∀ y ∈ x.2, ∃ u : Nat, y.v = (u : Int) ∧ u < 64) := fun y hy => by
  obtain ⟨j, hj, e⟩ := List.getElem_of_mem hy
  have h1 := hs.var (List.getElem?_eq_getElem hj)
  rw [e] at h1
  exact ⟨_, h1.1, by omega⟩
 clear hat hbb hb0 hs hin hx
 go_enter Try.func44, Try.ntmps44
 go_wp2
 generalize w.alloc (.cells #[.int .i64 v] 3) = W at *
 obtain ⟨X, hXd⟩ : ∃ X, X = w.heap.size := ⟨_, rfl⟩
 have LB : Hid (b < W.heap.size ∧ bb < W.heap.size) := ⟨by omega, by omega⟩
 have HX : Hid (W.cell? ⟨X, 0, none⟩ = some (.int .i64 v)) := by show _ = _; rw [hXd]; exact hX
 have LX : X < W.heap.size := by omega
 rw [← hXd]
 have HB : Hid (Below w.heap.size w W.drew) := HB0.out.drew
 have HCH : Hid (ChB W b (.slice (some ⟨bb, off, none⟩) N cA) vo t) := hb'
 clear hX HB0 hb' hb hlb hlb2 hXd hzz
 by_cases hv : ∃ y ∈ x.2, y.v = v
 ·
  obtain ⟨y, hy, hyv⟩ := hv
  obtain ⟨u, hu, u64⟩ := HVn.out y hy
  have hvu : v = (u : Int) := hyv.symm.trans hu
  subst hvu
  have HV : Hid (∃ z ∈ x.2, z.v = (u : Int)) := ⟨y, hy, hu⟩
  have HU : Hid (u ∈ x.2.map fun t => t.v.toNat) := List.mem_map.2 ⟨y, hy, by rw [hu]; rfl⟩
  have u0 : (0 : Int) ≤ (u : Int) := by omega
  have u1 : (u : Int) < 64 := by omega
  have cv := HX.out
  have ct := HCH.out.cellT u64
  clear hy hu hyv
  go_region_held3 (fun w' => w'.cell? ⟨b, 0, none⟩ = some (.slice (some ⟨bb, off, none⟩) N cA) ∧ w'.cell? ⟨bb, off + i * 5 + 1, none⟩ = some (.slice x.1.A x.1.n x.1.c) ∧ w'.cell? ⟨X, 0, none⟩ = some (.int .i64 (u : Int)) ∧ w'.cell? ⟨b, 2 + u, none⟩ = some (.int .i64 (oi (t u)))) (go_keep)
   (first | (
        go_at_call 59
        refine (ContainsFunc_c x.1.A x.1.n x.1.c x.2 X (u : Int) W.drew (HT.out.below HB.out) n9 HX.out).mono ?_
        rintro ee w2 ⟨⟨r, rfl, hr⟩, hb2⟩
        have hrf : r = true := hr.2 HV.out
        subst hrf
        have HB2 : Hid (Below w.heap.size w w2) := HB.out.trans (hb2.mono HB.out.size)
        replace c0 := (World.cell?_of_block (hb2.block b LB.out.1)).trans c0
        replace c1 := (World.cell?_of_block (hb2.block bb LB.out.2)).trans c1
        replace cv := (World.cell?_of_block (hb2.block X LX)).trans cv
        replace ct := (World.cell?_of_block (hb2.block b LB.out.1)).trans ct
        clear hr hb2))
  have HP : Hid (BPost (∃ q : Nat, q ∈ x.2.map (fun t => t.v.toNat) ∧ (u : Int) = (q : Int) ∧ t q = none) (.returned (.bool (oi (t u) == -1)))) := ⟨_, rfl, by
   rw [beq_iff_eq, oi_none]
   exact ⟨fun h => ⟨u, HU.out, rfl, h⟩, fun ⟨q, _, h1, h2⟩ => by rw [show u = q by omega]; exact h2⟩⟩
  go_wp2
  go_ret
  exact ⟨HP.out, HB2.out⟩
 ·
  have HV := Lib.hid hv
  have HN : Hid (¬ ∃ u : Nat, u ∈ x.2.map (fun t => t.v.toNat) ∧ v = (u : Int) ∧ t u = none) := fun ⟨u, hu, e, _⟩ => by
   obtain ⟨y, hy, e2⟩ := List.mem_map.1 hu
   obtain ⟨q, hq, _⟩ := HVn.out y hy
   refine hv ⟨y, hy, ?_⟩
   rw [e, ← e2, hq]; rfl
  clear hv
  refine wp_region_held_drew (S := fun w' => w'.cell? ⟨b, 0, none⟩ = some (.slice (some ⟨bb, off, none⟩) N cA) ∧ w'.cell? ⟨bb, off + i * 5 + 1, none⟩ = some (.slice x.1.A x.1.n x.1.c)) (by kernel_rfl) ?_ (fun hHeld => ?_)
  ·
   (try dsimp only)
   go_keep
  refine tk (i := 0) (h := ?_)
  try simp only [zR]
  refine tk (i := 1) (h := ?_)
  try simp only [zR]
  refine tk (i := 2) (h := ?_)
  try simp only [zR]
  refine tk (i := 3) (h := ?_)
  try simp only [zR]
  refine tk (i := 4) (h := ?_)
  try simp only [zR]
  refine tk (i := 5) (h := ?_)
  try simp only [zR]
  refine tk (i := 6) (h := ?_)
  try simp only [zR]
  refine tk (i := 7) (h := ?_)
  try simp only [zR]
  refine tk (i := 8) (h := ?_)
  try simp only [zR]
  refine tr [9] ?_
  refine tc (h := fun K hK => ?_) (hs := tn)
  try go_simp
  refine (ContainsFunc_c x.1.A x.1.n x.1.c x.2 X v W.drew (HT.out.below HB.out) n9 HX.out).mono ?_
  rintro ee w2 ⟨⟨r, rfl, hr⟩, hb2⟩
  have hrf : r = false := Bool.eq_false_iff.2 (fun e => HV.out (hr.1 e))
  subst hrf
  have HB2 : Hid (Below w.heap.size w w2) := HB.out.trans (hb2.mono HB.out.size)
  replace c0 := (World.cell?_of_block (hb2.block b LB.out.1)).trans c0
  replace c1 := (World.cell?_of_block (hb2.block bb LB.out.2)).trans c1
  clear hr hb2
  try go_wp2_with fail
  refine hK.out _ _ ?_ (fun hHeld => ?_)
  · (try dsimp only); go_keep
  clear hK K
  try simp only [zR]
  refine tk (i := 10) (h := ?_)
  try simp only [zR]
  refine ts (i := 11) (h := ?_)
  try simp only [zR]
  refine ts (i := 12) (h := ?_)
  try simp only [zR]
  refine ts (i := 13) (h := ?_)
  try simp only [zR]
  refine ts (i := 14) (h := ?_)
  try simp only [zR]
  refine ts (i := 15) (h := ?_)
  try simp only [zR]
  refine ts (i := 16) (h := ?_)
  try simp only [zR]
  refine ts (i := 17) (h := ?_)
  try simp only [zR]
  refine tk (i := 18) (h := ?_)
  try simp only [zR]
  refine tk (i := 19) (h := ?_)
  try simp only [zR]
  refine wpAnyH_done (by kernel_rfl) ?_ _
  go_wp2
  go_ret
  exact ⟨BPost.no HN.out rfl, HB2.out⟩
end Go.Proofs.Ytjbhhccklfddaaa
