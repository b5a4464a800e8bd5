/-
  The program's At: what a sum is at values.
  The document's At: what a sum is at values.
  Holds of a sum that comes in, by the program and by the document.
-/
import Derived.Test.YtgffkaconhonlaaGreatWPick
import Derived.Test.YtgffkaconhonlaaGreatWHvG
import Derived.Test.YtgffkaconhonlaaGreatWMRa
import Derived.Deep.RegionHeld3
import Derived.Sort.AtCall
import Derived.Test.YtgffkaconhonlaaGreatWRgn
import Derived.Test.YtgffkaconhonlaaGreatWMRr
import Derived.Test.YtgffkaconhonlaaGreatWRaw
namespace Go.Proofs.YtgffkaconhonlaaGreat
set_option maxRecDepth 20000
open Go.RowKit
theorem bel_At (w : World) : Below w.heap.size w w.drew := (Below.refl _ _).drew
theorem atL_take (f : Int → Rat) (L : List (Int × Rat)) (k : Rat) (i : Nat) (X : Int × Rat) (h : L[i]? = some X) : atL f (L.take (i + 1)) k = atL f (L.take i) k + X.2 * f X.1 := by
 rw [List.take_add_one, h, atL_append]
 rfl
theorem Rw.tight {w : World} {v : Rv} {r : Rat} {p : Nat} (h : Rw w v r p) : Sz r (v.n + v.m + 1) :=
 Rw.sz (w := w) (v := v) ⟨h.1, h.2, by omega, by omega, h.rows⟩ (by omega)
def bndA (la : List Tv) (i : Nat) : Nat := 151 + 6 * costK la i
theorem sz_atV {V : List Rat} (h : ∀ y ∈ V, Sz y 4) (i : Int) : Sz (atV V i) 4 := by
 have h0 : Sz (0 : Rat) 4 := by
  have := Sz.lit (x := 0) (y := 1) (s := false) (by omega) (by omega)
  rw [rn_zero (.inl rfl)] at this
  exact this.more (by omega)
 unfold atV
 split
 ·
  cases hq : V[i.toNat]? with
  | none => exact h0
  | some y => exact h y (List.mem_of_getElem? hq)
 · exact h0
theorem RdV.sz {w : World} {p : Nat} (hp : 0 < p) : ∀ {l : List Rv} {V : List Rat}, RdV w p l V → ∀ y ∈ V, Sz y p
 | [], [], _ => fun y hy => by cases hy
 |
  _ :: _, _ :: _, h => fun y hy => by
  rcases List.mem_cons.1 hy with rfl | hy
  · exact h.1.sz hp
  · exact RdV.sz hp h.2 y hy
 | [], _ :: _, h => h.elim
 | _ :: _, [], h => h.elim
theorem RdV.more {w : World} {p q : Nat} (hq : p ≤ q) : ∀ {l : List Rv} {V : List Rat}, RdV w p l V → RdV w q l V
 | [], [], _ => trivial
 | _ :: _, _ :: _, h => ⟨h.1.more hq, RdV.more hq h.2⟩
 | [], _ :: _, h => h.elim
 | _ :: _, [], h => h.elim
theorem AtP.step {w w1 w4 : World} {va : Cv} {zs s : Rv} {la : List Tv} {L : List (Int × Rat)} {V : List Rat} {lv : List Rv} {A : Option Addr} {k : Rat} {n i lo H : Nat} {x : Tv} {X : Int × Rat} {p : Nat}
  (hall : C3 w4 H (.bool zs.s) (.slice zs.A zs.n zs.c) (.slice zs.B zs.m zs.d) ∧ Rt w4 (w.heap.size + 2) zs (atL (atV V) (L.take i) k) ∧ Rw w4 x.r X.2 28500000000 ∧ (Nums w4 A n lv ∧ RdV w4 28500000000 lv V) ∧ C5 w4 w.heap.size (.int .i64 va.s) (.slice va.A va.n va.c) (.bool va.K.s) (.slice va.K.A va.K.n va.K.c) (.slice va.K.B va.K.m va.K.d) ∧ C3 w4 (w.heap.size + 1) (.bool false) (.slice none 0 0) (.slice none 0 0) ∧ Below w.heap.size w w4)
  (hs : Rt w4 lo s (atL (atV V) (L.take i) k + X.2 * atV V x.v)) (hx : la[i]? = some x) (hX : L[i]? = some X) (ex : x.v = X.1) (hz : Sz (atL (atV V) (L.take i) k) (bndA la i)) (hr : Rw w1 x.r X.2 p) (hV : ∀ y ∈ V, Sz y 4)
  (hlo : w.heap.size + 2 ≤ H) (hlo2 : H < lo) (hH : H < w4.heap.size) :
  Hid (C3 (put3 w4 H (.bool s.s) (.slice s.A s.n s.c) (.slice s.B s.m s.d)) H (.bool s.s) (.slice s.A s.n s.c) (.slice s.B s.m s.d) ∧ Rt (put3 w4 H (.bool s.s) (.slice s.A s.n s.c) (.slice s.B s.m s.d)) (w.heap.size + 2) s (atL (atV V) (L.take (i + 1)) k) ∧ Sz (atL (atV V) (L.take (i + 1)) k) (bndA la (i + 1)) ∧ C5 (put3 w4 H (.bool s.s) (.slice s.A s.n s.c) (.slice s.B s.m s.d)) w.heap.size (.int .i64 va.s) (.slice va.A va.n va.c) (.bool va.K.s) (.slice va.K.A va.K.n va.K.c) (.slice va.K.B va.K.m va.K.d) ∧ C3 (put3 w4 H (.bool s.s) (.slice s.A s.n s.c) (.slice s.B s.m s.d)) (w.heap.size + 1) (.bool false) (.slice none 0 0) (.slice none 0 0) ∧ Below w.heap.size w (put3 w4 H (.bool s.s) (.slice s.A s.n s.c) (.slice s.B s.m s.d)) ∧ H < (put3 w4 H (.bool s.s) (.slice s.A s.n s.c) (.slice s.B s.m s.d)).heap.size) := by
 have e := atL_take (atV V) L k i X hX
 rw [← ex] at e
 have hk : ∀ g, g ≠ H → (put3 w4 H (.bool s.s) (.slice s.A s.n s.c) (.slice s.B s.m s.d)).heap[g]? = w4.heap[g]? := fun g hg => by
  have h1 : ∀ (w : World) (j : Nat) (x : Value), (w.setCell ⟨H, j, none⟩ x).heap[g]? = w.heap[g]? := fun w j x => by
   show (w.heap.modify H _)[g]? = _
   rw [Array.getElem?_modify, if_neg (fun e => hg e.symm)]
  show (((w4.setCell _ _).setCell _ _).setCell _ _).heap[g]? = _
  rw [h1, h1, h1]
 have hsz : (put3 w4 H (.bool s.s) (.slice s.A s.n s.c) (.slice s.B s.m s.d)).heap.size = w4.heap.size := by simp [World.setCell]
 refine ⟨hall.1.put _ _ _, ?_, ?_, ?_, ?_, hall.2.2.2.2.2.2.trans (put3_below (by omega) _ _ _), by rw [hsz]; exact hH⟩
 ·
  rw [e]
  exact (hs.put hlo2 _ _ _).lower (by omega)
 ·
  rw [e]
  refine (hz.add (hr.tight.mul (sz_atV hV _))).more ?_
  unfold bndA
  rw [costK_succ hx]
  omega
 · exact (hk _ (by omega)).trans hall.2.2.2.2.1
 · exact (hk _ (by omega)).trans hall.2.2.2.2.2.1
set_option maxHeartbeats 12800000 in
theorem AtK_c (va : Cv) (A : Option Addr) (n c : Nat) (la : List Tv) (lv : List Rv) (L : List (Int × Rat)) (V : List Rat) (k : Rat) (w : World) (hcost : cost va la ≤ 150) (ha2 : Tms w 0 va.A va.n la) (ha3 : Rds w 150 la L) (ha4 : Rw w va.K k 150) (hV : Nums w A n lv) (hR : RdV w 4 lv V) (hn : n ≤ 1000) (hv64 : ∀ x ∈ la, -9223372036854775808 ≤ x.v ∧ x.v ≤ 9223372036854775807) :
  Calls Tryz.prog 48 #[.agg #[.int .i64 va.s, .slice va.A va.n va.c, .bool va.K.s, .slice va.K.A va.K.n va.K.c, .slice va.K.B va.K.m va.K.d], .slice A n c] w fun e w' => ∃ z : Rv, e = .returned (.agg #[.bool z.s, .slice z.A z.n z.c, .slice z.B z.m z.d]) ∧ Rt w' w.heap.size z (atL (atV V) L k) ∧ Sz (atL (atV V) L k) 1100 ∧ Below w.heap.size w w' := by
 have hvn : va.n ≤ 150 := by
  have h1 := costK_len la va.n (by rw [ha2.len]; exact Nat.le_refl _)
  unfold cost at hcost; omega
 have n0 : (0 : Int) ≤ (va.n : Int) := by omega
 have n9 : (va.n : Int) ≤ 150 := by omega
 have HW0 := Lib.hid (And.intro ha2 (And.intro (Rds.more (show 150 ≤ 28500000000 by omega) ha3) ha4))
 have HLL := Lib.hid (And.intro ha2.len ha3.len)
 have HV0 := Lib.hid (And.intro hV (RdV.more (show 4 ≤ 28500000000 by omega) hR))
 have HSV := Lib.hid (RdV.sz (by omega) hR)
 have H64 := Lib.hid hv64
 have HCO := Lib.hid hcost
 clear ha2 ha3 ha4 hV hR hv64 hcost
 have ka := (C5.new w (.int .i64 va.s) (.slice va.A va.n va.c) (.bool va.K.s) (.slice va.K.A va.K.n va.K.c) (.slice va.K.B va.K.m va.K.d)).alloc (.cells #[.bool false, .slice none 0 0, .slice none 0 0] 26)
 have kz := C3.new (w.alloc (.cells #[.int .i64 va.s, .slice va.A va.n va.c, .bool va.K.s, .slice va.K.A va.K.n va.K.c, .slice va.K.B va.K.m va.K.d] 28)) (.bool false) (.slice none 0 0) (.slice none 0 0)
 have hs1 : (w.alloc (.cells #[.int .i64 va.s, .slice va.A va.n va.c, .bool va.K.s, .slice va.K.A va.K.n va.K.c, .slice va.K.B va.K.m va.K.d] 28)).heap.size = w.heap.size + 1 := by simp
 rw [hs1] at kz
 have hB : Below w.heap.size w ((w.alloc (.cells #[.int .i64 va.s, .slice va.A va.n va.c, .bool va.K.s, .slice va.K.A va.K.n va.K.c, .slice va.K.B va.K.m va.K.d] 28)).alloc (.cells #[.bool false, .slice none 0 0, .slice none 0 0] 26)) := ((Below.refl _ _).alloc (Nat.le_refl _) _).alloc (by simp) _
 have hs2 : ((w.alloc (.cells #[.int .i64 va.s, .slice va.A va.n va.c, .bool va.K.s, .slice va.K.A va.K.n va.K.c, .slice va.K.B va.K.m va.K.d] 28)).alloc (.cells #[.bool false, .slice none 0 0, .slice none 0 0] 26)).heap.size = w.heap.size + 2 := by simp
 obtain ⟨a0, a1, a2, a3, a4⟩ := ka.facts
 go_enter Tryz.func48, Tryz.ntmps48
 go_wp2_with fail
 clear a0 a1 a2 a3 a4 hs1
 generalize (w.alloc (.cells #[.int .i64 va.s, .slice va.A va.n va.c, .bool va.K.s, .slice va.K.A va.K.n va.K.c, .slice va.K.B va.K.m va.K.d] 28)).alloc (.cells #[.bool false, .slice none 0 0, .slice none 0 0] 26) = W at *
 refine (Norm_any va.K k _ ((HW0.out.2.2.below hB).more (by omega))).mono ?_
 rintro e w1 ⟨z, rfl, hz, hb⟩
 have KA := Lib.hid (And.intro (ka.below hb) (kz.below hb))
 have HB1 := Lib.hid (hB.trans (hb.mono (by omega)))
 have hz1 := hb.size
 have HZ := Lib.hid (hz.lower (show w.heap.size + 2 ≤ W.heap.size by omega))
 clear hb ka kz hB hz
 have ks := C3.new w1 (.bool z.s) (.slice z.A z.n z.c) (.slice z.B z.m z.d)
 have hba : Below w1.heap.size w1 (w1.alloc (.cells #[.bool z.s, .slice z.A z.n z.c, .slice z.B z.m z.d] 26)) := (Below.refl _ _).alloc (Nat.le_refl _) _
 have hsA : (w1.alloc (.cells #[.bool z.s, .slice z.A z.n z.c, .slice z.B z.m z.d] 26)).heap.size = w1.heap.size + 1 := by simp
 obtain ⟨a0, a1, a2, a3, a4⟩ := (KA.out.1.below hba).facts
 have HST : Hid (C3 (w1.alloc (.cells #[.bool z.s, .slice z.A z.n z.c, .slice z.B z.m z.d] 26)) w1.heap.size (.bool z.s) (.slice z.A z.n z.c) (.slice z.B z.m z.d) ∧ Rt (w1.alloc (.cells #[.bool z.s, .slice z.A z.n z.c, .slice z.B z.m z.d] 26)) (w.heap.size + 2) z (atL (atV V) (L.take 0) k) ∧ Sz (atL (atV V) (L.take 0) k) (bndA la 0) ∧ C5 (w1.alloc (.cells #[.bool z.s, .slice z.A z.n z.c, .slice z.B z.m z.d] 26)) w.heap.size (.int .i64 va.s) (.slice va.A va.n va.c) (.bool va.K.s) (.slice va.K.A va.K.n va.K.c) (.slice va.K.B va.K.m va.K.d) ∧ C3 (w1.alloc (.cells #[.bool z.s, .slice z.A z.n z.c, .slice z.B z.m z.d] 26)) (w.heap.size + 1) (.bool false) (.slice none 0 0) (.slice none 0 0) ∧ Below w.heap.size w (w1.alloc (.cells #[.bool z.s, .slice z.A z.n z.c, .slice z.B z.m z.d] 26)) ∧ w1.heap.size < (w1.alloc (.cells #[.bool z.s, .slice z.A z.n z.c, .slice z.B z.m z.d] 26)).heap.size) :=
  ⟨ks, HZ.out.below hba, (HW0.out.2.2.sz (by omega)).more (by unfold bndA; omega), KA.out.1.below hba, KA.out.2.below hba, HB1.out.trans (hba.mono HB1.out.size), by omega⟩
 clear ks hba
 go_wp2
 clear a0 a1 a2 a3 a4
 go_loopw [7, 14] (fun _ iv wr => ∃ (i : Nat) (z : Rv), i ≤ va.n ∧ iv = .int .i64 i ∧ Hid (C3 wr w1.heap.size (.bool z.s) (.slice z.A z.n z.c) (.slice z.B z.m z.d) ∧ Rt wr (w.heap.size + 2) z (atL (atV V) (L.take i) k) ∧ Sz (atL (atV V) (L.take i) k) (bndA la i) ∧ C5 wr w.heap.size (.int .i64 va.s) (.slice va.A va.n va.c) (.bool va.K.s) (.slice va.K.A va.K.n va.K.c) (.slice va.K.B va.K.m va.K.d) ∧ C3 wr (w.heap.size + 1) (.bool false) (.slice none 0 0) (.slice none 0 0) ∧ Below w.heap.size w wr ∧ w1.heap.size < wr.heap.size)) (fun _ iv _ => va.n - (intOf iv).toNat)
 case atStart => exact ⟨0, z, by omega, rfl, HST⟩
 case round =>
  clear HST HZ
  obtain ⟨i, zs, hi, rfl, HST⟩ := hrel
  by_cases hlt : i < va.n
  ·
   have i0 : (0 : Int) ≤ (i : Int) := by omega
   have i1 : (i : Int) < (va.n : Int) := by omega
   obtain ⟨b, off, hvA, _, hbw, hc⟩ := HW0.out.1.mem (by omega)
   rw [hvA]
   obtain ⟨x, X, hx, hX, hxv, hxr⟩ := HW0.out.2.1.get i (by rw [HLL.out.1]; omega)
   obtain ⟨x0, x1, x2, x3⟩ := (hc i x hx).keep (HST.out.2.2.2.2.2.1.block b hbw)
   have hx64 := H64.out x (List.mem_of_getElem? hx)
   have HX := Lib.hid (And.intro hx (And.intro hX hxv))
   have HXR := Lib.hid hxr
   have HVA := Lib.hid hvA
   clear hx hX hxv hxr hc hvA
   go_wp2_with fail
   have ax := At4.new wr x
   have hba : Below wr.heap.size wr (wr.alloc (.cells #[.int .i64 x.v, .bool x.r.s, .slice x.r.A x.r.n x.r.c, .slice x.r.B x.r.m x.r.d] 47)) := (Below.refl _ _).alloc (Nat.le_refl _) _
   have hzA : (wr.alloc (.cells #[.int .i64 x.v, .bool x.r.s, .slice x.r.A x.r.n x.r.c, .slice x.r.B x.r.m x.r.d] 47)).heap.size = wr.heap.size + 1 := by simp
   clear x0 x1 x2 x3
   obtain ⟨x0, x1, x2, x3⟩ := ax
   have HBA := Lib.hid hba
   clear hba
   generalize wr.alloc (.cells #[.int .i64 x.v, .bool x.r.s, .slice x.r.A x.r.n x.r.c, .slice x.r.B x.r.m x.r.d] 47) = WA at *
   have HALL : Hid (∀ w', Below WA.heap.size WA w' → C3 w' w1.heap.size (.bool zs.s) (.slice zs.A zs.n zs.c) (.slice zs.B zs.m zs.d) ∧ Rt w' (w.heap.size + 2) zs (atL (atV V) (L.take i) k) ∧ Rw w' x.r X.2 28500000000 ∧ (Nums w' A n lv ∧ RdV w' 28500000000 lv V) ∧ C5 w' w.heap.size (.int .i64 va.s) (.slice va.A va.n va.c) (.bool va.K.s) (.slice va.K.A va.K.n va.K.c) (.slice va.K.B va.K.m va.K.d) ∧ C3 w' (w.heap.size + 1) (.bool false) (.slice none 0 0) (.slice none 0 0) ∧ Below w.heap.size w w') := fun w' h => by
    have h1 : Below wr.heap.size wr w' := HBA.out.trans (h.mono (by omega))
    have h2 := HST.out.2.2.2.2.2.1.trans (h1.mono HST.out.2.2.2.2.2.1.size)
    exact ⟨HST.out.1.below h1, HST.out.2.1.below h1, HXR.out.below h2, ⟨HV0.out.1.below h2, RdV.below h2 HV0.out.2⟩, HST.out.2.2.2.1.below h1, HST.out.2.2.2.2.1.below h1, h2⟩
   have hw1 : w1.heap.size < wr.heap.size := HST.out.2.2.2.2.2.2
   have hne : ¬ wr.heap.size = w1.heap.size := by omega
   have hne' : ¬ w1.heap.size = wr.heap.size := by omega
   obtain ⟨s0, s1, s2, t0, t1, t2⟩ := (HALL.out _ (bel_At WA)).1.facts
   have HSZ : Hid (bndA la i ≤ 30000000000 ∧ x.r.n + x.r.m + 1 + 4 ≤ 30000000000) := by
    have h1 := costK_mono la (show i + 1 ≤ va.n by omega)
    rw [costK_succ HX.out.1] at h1
    have h2 := HCO.out
    unfold cost at h2
    refine ⟨?_, by omega⟩
    unfold bndA
    omega
   refine wp_region_held_drew (S := fun w' => w'.cell? ⟨wr.heap.size, 0, none⟩ = some (.int .i64 x.v) ∧ w'.cell? ⟨wr.heap.size, 0 + 1, none⟩ = some (.bool x.r.s) ∧ w'.cell? ⟨wr.heap.size, 0 + 2, none⟩ = some (.slice x.r.A x.r.n x.r.c) ∧ w'.cell? ⟨wr.heap.size, 0 + 3, none⟩ = some (.slice x.r.B x.r.m x.r.d)) (by kernel_rfl) ?_ (fun hHeld => ?_)
   ·
    (try dsimp only)
    go_keep
   refine tk (i := 1) (h := ?_)
   try simp only [zR]
   refine tk (i := 2) (h := ?_)
   try simp only [zR]
   refine tk (i := 3) (h := ?_)
   try simp only [zR]
   refine tk (i := 4) (h := ?_)
   try simp only [zR]
   refine tk (i := 5) (h := ?_)
   try simp only [zR]
   refine tr [0, 6] ?_
   refine tc (h := fun K hK => ?_) (hs := tc (h := fun K hK => ?_) (hs := tn))
   ·
    skip
    try go_simp
    try go_wp2_with fail
    refine hK.out _ _ ?_ (fun hHeld => ?_)
    · (try dsimp only); go_keep
    clear hK K
    try simp only [zR]
    refine tr [6] ?_
    refine tc (h := fun K hK => ?_) (hs := tn)
    try go_simp
    go_at_call 88
    refine (pick_c A n c lv V x.v _ (HALL.out _ (bel_At WA)).2.2.2.1.1 (HALL.out _ (bel_At WA)).2.2.2.1.2 hn hx64).mono ?_
    rintro ee w2 ⟨y, rfl, hy, hb⟩
    have hbW := (bel_At WA).trans hb
    have hk := hbW.block wr.heap.size (by omega)
    replace x0 := (World.cell?_of_block hk).trans x0
    replace x1 := (World.cell?_of_block hk).trans x1
    replace x2 := (World.cell?_of_block hk).trans x2
    replace x3 := (World.cell?_of_block hk).trans x3
    obtain ⟨s0, s1, s2, t0, t1, t2⟩ := (HALL.out _ hbW).1.facts
    have HY := Lib.hid hy
    have HW2 := Lib.hid hbW
    clear hk hb hbW hy
    try go_wp2_with fail
    refine hK.out _ _ ?_ (fun hHeld => ?_)
    · (try dsimp only); go_keep
    clear hK K
    try simp only [zR]
    refine tr [7] ?_
    refine tc (h := fun K hK => ?_) (hs := tn)
    try go_simp
    go_at_call 87
    refine (Mul_c x.r y X.2 (atV V x.v) _ ((HALL.out _ HW2.out).2.2.1.more (by omega)) (HY.out.more (by omega))).mono ?_
    rintro ee w3 ⟨u, rfl, hu, hb⟩
    have hbW := HW2.out.trans (hb.mono HW2.out.size)
    have hk := hb.block wr.heap.size (by have := HW2.out.size; omega)
    replace x0 := (World.cell?_of_block hk).trans x0
    replace x1 := (World.cell?_of_block hk).trans x1
    replace x2 := (World.cell?_of_block hk).trans x2
    replace x3 := (World.cell?_of_block hk).trans x3
    obtain ⟨s0, s1, s2, t0, t1, t2⟩ := (HALL.out _ hbW).1.facts
    have HU := Lib.hid hu
    have HW3 := Lib.hid hbW
    clear hk hb hbW hu
    try go_wp2_with fail
    refine hK.out _ _ ?_ (fun hHeld => ?_)
    · (try dsimp only); go_keep
    clear hK K
    try simp only [zR]
    refine tr [8] ?_
    refine tc (h := fun K hK => ?_) (hs := tn)
    try go_simp
    go_at_call 86
    refine (Add_c zs u (atL (atV V) (L.take i) k) (X.2 * atV V x.v) _ (((HALL.out _ HW3.out).2.1.rw HST.out.2.2.1).more HSZ.out.1) ((HU.out.rw ((HXR.out.tight).mul (sz_atV HSV.out _))).more HSZ.out.2)).mono ?_
    rintro ee w4 ⟨s, rfl, hs, hb⟩
    have hbW := HW3.out.trans (hb.mono HW3.out.size)
    have hk := hb.block wr.heap.size (by have := HW3.out.size; omega)
    replace x0 := (World.cell?_of_block hk).trans x0
    replace x1 := (World.cell?_of_block hk).trans x1
    replace x2 := (World.cell?_of_block hk).trans x2
    replace x3 := (World.cell?_of_block hk).trans x3
    obtain ⟨s0, s1, s2, t0, t1, t2⟩ := (HALL.out _ hbW).1.facts
    have HS := Lib.hid hs
    have HW4 := Lib.hid hbW
    have hz3 := HW3.out.size
    have hz4 := HW4.out.size
    clear hk hb hbW hs
    try go_wp2_with fail
    refine hK.out _ _ ?_ (fun hHeld => ?_)
    · (try dsimp only); go_keep
    clear hK K
    try simp only [zR]
    refine tr [9] ?_
    refine tc (h := fun K hK => ?_) (hs := tn)
    try go_simp
    try go_wp2_with fail
    refine hK.out _ _ ?_ (fun hHeld => ?_)
    · (try dsimp only); go_keep
    clear hK K
    try simp only [zR]
    refine wpAnyH_done (by kernel_rfl) ?_ _
    clear x0 x1 x2 x3 s0 s1 s2 t0 t1 t2
    go_wp2
    go_roundw
    case rel =>
     have hst := AtP.step (HALL.out _ HW4.out) HS.out HX.out.1 HX.out.2.1 HX.out.2.2 HST.out.2.2.1 HXR.out HSV.out (by omega) (by omega) (by omega)
     rw [HVA.out] at hst
     exact ⟨i + 1, s, by omega, by go_num, hst⟩
    case measure => simp [intOf]; omega
   ·
    skip
    try go_simp
    go_at_call 88
    refine (pick_c A n c lv V x.v _ (HALL.out _ (bel_At WA)).2.2.2.1.1 (HALL.out _ (bel_At WA)).2.2.2.1.2 hn hx64).mono ?_
    rintro ee w2 ⟨y, rfl, hy, hb⟩
    have hbW := (bel_At WA).trans hb
    have hk := hbW.block wr.heap.size (by omega)
    replace x0 := (World.cell?_of_block hk).trans x0
    replace x1 := (World.cell?_of_block hk).trans x1
    replace x2 := (World.cell?_of_block hk).trans x2
    replace x3 := (World.cell?_of_block hk).trans x3
    obtain ⟨s0, s1, s2, t0, t1, t2⟩ := (HALL.out _ hbW).1.facts
    have HY := Lib.hid hy
    have HW2 := Lib.hid hbW
    clear hk hb hbW hy
    try go_wp2_with fail
    refine hK.out _ _ ?_ (fun hHeld => ?_)
    · (try dsimp only); go_keep
    clear hK K
    try simp only [zR]
    refine tr [0, 7] ?_
    refine tc (h := fun K hK => ?_) (hs := tc (h := fun K hK => ?_) (hs := tn))
    ·
     skip
     try go_simp
     try go_wp2_with fail
     refine hK.out _ _ ?_ (fun hHeld => ?_)
     · (try dsimp only); go_keep
     clear hK K
     try simp only [zR]
     refine tr [7] ?_
     refine tc (h := fun K hK => ?_) (hs := tn)
     try go_simp
     go_at_call 87
     refine (Mul_c x.r y X.2 (atV V x.v) _ ((HALL.out _ HW2.out).2.2.1.more (by omega)) (HY.out.more (by omega))).mono ?_
     rintro ee w3 ⟨u, rfl, hu, hb⟩
     have hbW := HW2.out.trans (hb.mono HW2.out.size)
     have hk := hb.block wr.heap.size (by have := HW2.out.size; omega)
     replace x0 := (World.cell?_of_block hk).trans x0
     replace x1 := (World.cell?_of_block hk).trans x1
     replace x2 := (World.cell?_of_block hk).trans x2
     replace x3 := (World.cell?_of_block hk).trans x3
     obtain ⟨s0, s1, s2, t0, t1, t2⟩ := (HALL.out _ hbW).1.facts
     have HU := Lib.hid hu
     have HW3 := Lib.hid hbW
     clear hk hb hbW hu
     try go_wp2_with fail
     refine hK.out _ _ ?_ (fun hHeld => ?_)
     · (try dsimp only); go_keep
     clear hK K
     try simp only [zR]
     refine tr [8] ?_
     refine tc (h := fun K hK => ?_) (hs := tn)
     try go_simp
     go_at_call 86
     refine (Add_c zs u (atL (atV V) (L.take i) k) (X.2 * atV V x.v) _ (((HALL.out _ HW3.out).2.1.rw HST.out.2.2.1).more HSZ.out.1) ((HU.out.rw ((HXR.out.tight).mul (sz_atV HSV.out _))).more HSZ.out.2)).mono ?_
     rintro ee w4 ⟨s, rfl, hs, hb⟩
     have hbW := HW3.out.trans (hb.mono HW3.out.size)
     have hk := hb.block wr.heap.size (by have := HW3.out.size; omega)
     replace x0 := (World.cell?_of_block hk).trans x0
     replace x1 := (World.cell?_of_block hk).trans x1
     replace x2 := (World.cell?_of_block hk).trans x2
     replace x3 := (World.cell?_of_block hk).trans x3
     obtain ⟨s0, s1, s2, t0, t1, t2⟩ := (HALL.out _ hbW).1.facts
     have HS := Lib.hid hs
     have HW4 := Lib.hid hbW
     have hz3 := HW3.out.size
     have hz4 := HW4.out.size
     clear hk hb hbW hs
     try go_wp2_with fail
     refine hK.out _ _ ?_ (fun hHeld => ?_)
     · (try dsimp only); go_keep
     clear hK K
     try simp only [zR]
     refine tr [9] ?_
     refine tc (h := fun K hK => ?_) (hs := tn)
     try go_simp
     try go_wp2_with fail
     refine hK.out _ _ ?_ (fun hHeld => ?_)
     · (try dsimp only); go_keep
     clear hK K
     try simp only [zR]
     refine wpAnyH_done (by kernel_rfl) ?_ _
     clear x0 x1 x2 x3 s0 s1 s2 t0 t1 t2
     go_wp2
     go_roundw
     case rel =>
      have hst := AtP.step (HALL.out _ HW4.out) HS.out HX.out.1 HX.out.2.1 HX.out.2.2 HST.out.2.2.1 HXR.out HSV.out (by omega) (by omega) (by omega)
      rw [HVA.out] at hst
      exact ⟨i + 1, s, by omega, by go_num, hst⟩
     case measure => simp [intOf]; omega
    ·
     skip
     try go_simp
     go_at_call 87
     refine (Mul_c x.r y X.2 (atV V x.v) _ ((HALL.out _ HW2.out).2.2.1.more (by omega)) (HY.out.more (by omega))).mono ?_
     rintro ee w3 ⟨u, rfl, hu, hb⟩
     have hbW := HW2.out.trans (hb.mono HW2.out.size)
     have hk := hb.block wr.heap.size (by have := HW2.out.size; omega)
     replace x0 := (World.cell?_of_block hk).trans x0
     replace x1 := (World.cell?_of_block hk).trans x1
     replace x2 := (World.cell?_of_block hk).trans x2
     replace x3 := (World.cell?_of_block hk).trans x3
     obtain ⟨s0, s1, s2, t0, t1, t2⟩ := (HALL.out _ hbW).1.facts
     have HU := Lib.hid hu
     have HW3 := Lib.hid hbW
     clear hk hb hbW hu
     try go_wp2_with fail
     refine hK.out _ _ ?_ (fun hHeld => ?_)
     · (try dsimp only); go_keep
     clear hK K
     try simp only [zR]
     refine tr [0] ?_
     refine tc (h := fun K hK => ?_) (hs := tn)
     try go_simp
     try go_wp2_with fail
     refine hK.out _ _ ?_ (fun hHeld => ?_)
     · (try dsimp only); go_keep
     clear hK K
     try simp only [zR]
     refine tr [8] ?_
     refine tc (h := fun K hK => ?_) (hs := tn)
     try go_simp
     go_at_call 86
     refine (Add_c zs u (atL (atV V) (L.take i) k) (X.2 * atV V x.v) _ (((HALL.out _ HW3.out).2.1.rw HST.out.2.2.1).more HSZ.out.1) ((HU.out.rw ((HXR.out.tight).mul (sz_atV HSV.out _))).more HSZ.out.2)).mono ?_
     rintro ee w4 ⟨s, rfl, hs, hb⟩
     have hbW := HW3.out.trans (hb.mono HW3.out.size)
     have hk := hb.block wr.heap.size (by have := HW3.out.size; omega)
     replace x0 := (World.cell?_of_block hk).trans x0
     replace x1 := (World.cell?_of_block hk).trans x1
     replace x2 := (World.cell?_of_block hk).trans x2
     replace x3 := (World.cell?_of_block hk).trans x3
     obtain ⟨s0, s1, s2, t0, t1, t2⟩ := (HALL.out _ hbW).1.facts
     have HS := Lib.hid hs
     have HW4 := Lib.hid hbW
     have hz3 := HW3.out.size
     have hz4 := HW4.out.size
     clear hk hb hbW hs
     try go_wp2_with fail
     refine hK.out _ _ ?_ (fun hHeld => ?_)
     · (try dsimp only); go_keep
     clear hK K
     try simp only [zR]
     refine tr [9] ?_
     refine tc (h := fun K hK => ?_) (hs := tn)
     try go_simp
     try go_wp2_with fail
     refine hK.out _ _ ?_ (fun hHeld => ?_)
     · (try dsimp only); go_keep
     clear hK K
     try simp only [zR]
     refine wpAnyH_done (by kernel_rfl) ?_ _
     clear x0 x1 x2 x3 s0 s1 s2 t0 t1 t2
     go_wp2
     go_roundw
     case rel =>
      have hst := AtP.step (HALL.out _ HW4.out) HS.out HX.out.1 HX.out.2.1 HX.out.2.2 HST.out.2.2.1 HXR.out HSV.out (by omega) (by omega) (by omega)
      rw [HVA.out] at hst
      exact ⟨i + 1, s, by omega, by go_num, hst⟩
     case measure => simp [intOf]; omega
  ·
   have i1 : ¬ (i : Int) < (va.n : Int) := by omega
   have heq : L.take i = L := List.take_of_length_le (by rw [← HLL.out.2, HLL.out.1]; omega)
   rw [heq] at HST
   have hbd : Hid (bndA la i ≤ 1100) := by
    have h1 := costK_mono la (show i ≤ va.n by omega)
    have h2 := HCO.out
    unfold cost at h2
    show bndA la i ≤ 1100
    unfold bndA
    omega
   obtain ⟨s0, s1, s2, t0, t1, t2⟩ := HST.out.1.facts
   obtain ⟨q0, q1, q2, r0, r1, r2⟩ := HST.out.2.2.2.2.1.facts
   have hsw := HST.out.2.2.2.2.2.2
   clear heq
   go_wp2
   refine ret3 (fn := Tryz.f48) Tryz.results48 rfl rfl HST.out.2.2.2.2.1 ?_
   exact ⟨zs, rfl, (HST.out.2.1.put (by omega) _ _ _).lower (by omega), HST.out.2.2.1.more hbd.out, HST.out.2.2.2.2.2.1.trans (put3_below (by omega) _ _ _)⟩
end Go.Proofs.YtgffkaconhonlaaGreat

namespace Go.Proofs.YtgffkaconhonlaaGreat
set_option maxRecDepth 20000
open Go.RowKit
theorem AtP.idle {w wr : World} {va : Cv} {zs : Rv} {la : List Tv} {L : List (Int × Rat)} {V : List Rat} {k : Rat} {i H : Nat} {x : Tv} {X : Int × Rat}
  (h : C3 wr H (.bool zs.s) (.slice zs.A zs.n zs.c) (.slice zs.B zs.m zs.d) ∧ Rt wr (w.heap.size + 2) zs (atL (atV V) (L.take i) k) ∧ Sz (atL (atV V) (L.take i) k) (bndA la i) ∧ C5 wr w.heap.size (.int .i64 va.s) (.slice va.A va.n va.c) (.bool va.K.s) (.slice va.K.A va.K.n va.K.c) (.slice va.K.B va.K.m va.K.d) ∧ C3 wr (w.heap.size + 1) (.bool false) (.slice none 0 0) (.slice none 0 0) ∧ Below w.heap.size w wr ∧ H < wr.heap.size)
  (hx : la[i]? = some x) (hX : L[i]? = some X) (ex : x.v = X.1) (h0 : atV V x.v = 0) :
  Hid (C3 wr H (.bool zs.s) (.slice zs.A zs.n zs.c) (.slice zs.B zs.m zs.d) ∧ Rt wr (w.heap.size + 2) zs (atL (atV V) (L.take (i + 1)) k) ∧ Sz (atL (atV V) (L.take (i + 1)) k) (bndA la (i + 1)) ∧ C5 wr w.heap.size (.int .i64 va.s) (.slice va.A va.n va.c) (.bool va.K.s) (.slice va.K.A va.K.n va.K.c) (.slice va.K.B va.K.m va.K.d) ∧ C3 wr (w.heap.size + 1) (.bool false) (.slice none 0 0) (.slice none 0 0) ∧ Below w.heap.size w wr ∧ H < wr.heap.size) := by
 have e := atL_take (atV V) L k i X hX
 rw [← ex, h0, Rat.mul_zero, Rat.add_zero] at e
 refine ⟨h.1, by rw [e]; exact h.2.1, by rw [e]; exact h.2.2.1.more (by unfold bndA; rw [costK_succ hx]; omega), h.2.2.2⟩
set_option maxHeartbeats 12800000 in
theorem rAtK_c (va : Cv) (A : Option Addr) (n c : Nat) (la : List Tv) (lv : List Rv) (L : List (Int × Rat)) (V : List Rat) (k : Rat) (w : World) (hcost : cost va la ≤ 150) (ha2 : Tms w 0 va.A va.n la) (ha3 : Rds w 150 la L) (ha4 : Rw w va.K k 150) (hV : Nums w A n lv) (hR : RdV w 4 lv V) (hn : n ≤ 1000) :
  Calls Tryz.prog 49 #[.agg #[.int .i64 va.s, .slice va.A va.n va.c, .bool va.K.s, .slice va.K.A va.K.n va.K.c, .slice va.K.B va.K.m va.K.d], .slice A n c] w fun e w' => ∃ z : Rv, e = .returned (.agg #[.bool z.s, .slice z.A z.n z.c, .slice z.B z.m z.d]) ∧ Rt w' w.heap.size z (atL (atV V) L k) ∧ Sz (atL (atV V) L k) 1100 ∧ Below w.heap.size w w' := by
 have hvn : va.n ≤ 150 := by
  have h1 := costK_len la va.n (by rw [ha2.len]; exact Nat.le_refl _)
  unfold cost at hcost; omega
 have n0 : (0 : Int) ≤ (va.n : Int) := by omega
 have n9 : (va.n : Int) ≤ 150 := by omega
 have m0 : (0 : Int) ≤ (n : Int) := by omega
 have m9 : (n : Int) ≤ 1000 := by omega
 have HW0 := Lib.hid (And.intro ha2 (And.intro (Rds.more (show 150 ≤ 28500000000 by omega) ha3) ha4))
 have HLL := Lib.hid (And.intro ha2.len ha3.len)
 have HVL := Lib.hid (And.intro hV.len hR.len)
 have HV0 := Lib.hid (And.intro hV (RdV.more (show 4 ≤ 28500000000 by omega) hR))
 have HSV := Lib.hid (RdV.sz (by omega) hR)
 have HCO := Lib.hid hcost
 clear ha2 ha3 ha4 hV hR hcost
 have ka := (C5.new w (.int .i64 va.s) (.slice va.A va.n va.c) (.bool va.K.s) (.slice va.K.A va.K.n va.K.c) (.slice va.K.B va.K.m va.K.d)).alloc (.cells #[.bool false, .slice none 0 0, .slice none 0 0] 26)
 have kz := C3.new (w.alloc (.cells #[.int .i64 va.s, .slice va.A va.n va.c, .bool va.K.s, .slice va.K.A va.K.n va.K.c, .slice va.K.B va.K.m va.K.d] 28)) (.bool false) (.slice none 0 0) (.slice none 0 0)
 have hs1 : (w.alloc (.cells #[.int .i64 va.s, .slice va.A va.n va.c, .bool va.K.s, .slice va.K.A va.K.n va.K.c, .slice va.K.B va.K.m va.K.d] 28)).heap.size = w.heap.size + 1 := by simp
 rw [hs1] at kz
 have hB : Below w.heap.size w ((w.alloc (.cells #[.int .i64 va.s, .slice va.A va.n va.c, .bool va.K.s, .slice va.K.A va.K.n va.K.c, .slice va.K.B va.K.m va.K.d] 28)).alloc (.cells #[.bool false, .slice none 0 0, .slice none 0 0] 26)) := ((Below.refl _ _).alloc (Nat.le_refl _) _).alloc (by simp) _
 have hs2 : ((w.alloc (.cells #[.int .i64 va.s, .slice va.A va.n va.c, .bool va.K.s, .slice va.K.A va.K.n va.K.c, .slice va.K.B va.K.m va.K.d] 28)).alloc (.cells #[.bool false, .slice none 0 0, .slice none 0 0] 26)).heap.size = w.heap.size + 2 := by simp
 obtain ⟨a0, a1, a2, a3, a4⟩ := ka.facts
 go_enter Tryz.func49, Tryz.ntmps49
 go_wp2_with fail
 clear a0 a1 a2 a3 a4 hs1
 generalize (w.alloc (.cells #[.int .i64 va.s, .slice va.A va.n va.c, .bool va.K.s, .slice va.K.A va.K.n va.K.c, .slice va.K.B va.K.m va.K.d] 28)).alloc (.cells #[.bool false, .slice none 0 0, .slice none 0 0] 26) = W at *
 refine (rNorm_c va.K k _ ((HW0.out.2.2.below hB).more (by omega))).mono ?_
 rintro e w1 ⟨z, rfl, hz, hb⟩
 have KA := Lib.hid (And.intro (ka.below hb) (kz.below hb))
 have HB1 := Lib.hid (hB.trans (hb.mono (by omega)))
 have hz1 := hb.size
 have HZ := Lib.hid (hz.lower (show w.heap.size + 2 ≤ W.heap.size by omega))
 clear hb ka kz hB hz
 have ks := C3.new w1 (.bool z.s) (.slice z.A z.n z.c) (.slice z.B z.m z.d)
 have hba : Below w1.heap.size w1 (w1.alloc (.cells #[.bool z.s, .slice z.A z.n z.c, .slice z.B z.m z.d] 26)) := (Below.refl _ _).alloc (Nat.le_refl _) _
 have hsA : (w1.alloc (.cells #[.bool z.s, .slice z.A z.n z.c, .slice z.B z.m z.d] 26)).heap.size = w1.heap.size + 1 := by simp
 have HST : Hid (C3 (w1.alloc (.cells #[.bool z.s, .slice z.A z.n z.c, .slice z.B z.m z.d] 26)) w1.heap.size (.bool z.s) (.slice z.A z.n z.c) (.slice z.B z.m z.d) ∧ Rt (w1.alloc (.cells #[.bool z.s, .slice z.A z.n z.c, .slice z.B z.m z.d] 26)) (w.heap.size + 2) z (atL (atV V) (L.take 0) k) ∧ Sz (atL (atV V) (L.take 0) k) (bndA la 0) ∧ C5 (w1.alloc (.cells #[.bool z.s, .slice z.A z.n z.c, .slice z.B z.m z.d] 26)) w.heap.size (.int .i64 va.s) (.slice va.A va.n va.c) (.bool va.K.s) (.slice va.K.A va.K.n va.K.c) (.slice va.K.B va.K.m va.K.d) ∧ C3 (w1.alloc (.cells #[.bool z.s, .slice z.A z.n z.c, .slice z.B z.m z.d] 26)) (w.heap.size + 1) (.bool false) (.slice none 0 0) (.slice none 0 0) ∧ Below w.heap.size w (w1.alloc (.cells #[.bool z.s, .slice z.A z.n z.c, .slice z.B z.m z.d] 26)) ∧ w1.heap.size < (w1.alloc (.cells #[.bool z.s, .slice z.A z.n z.c, .slice z.B z.m z.d] 26)).heap.size) :=
  ⟨ks, HZ.out.below hba, (HW0.out.2.2.sz (by omega)).more (by unfold bndA; omega), KA.out.1.below hba, KA.out.2.below hba, HB1.out.trans (hba.mono HB1.out.size), by omega⟩
 clear ks hba
 go_wp2
 go_loopw [6, 7] (fun iv _ wr => ∃ (i : Nat) (z : Rv), i ≤ va.n ∧ iv = .int .i64 i ∧ Hid (C3 wr w1.heap.size (.bool z.s) (.slice z.A z.n z.c) (.slice z.B z.m z.d) ∧ Rt wr (w.heap.size + 2) z (atL (atV V) (L.take i) k) ∧ Sz (atL (atV V) (L.take i) k) (bndA la i) ∧ C5 wr w.heap.size (.int .i64 va.s) (.slice va.A va.n va.c) (.bool va.K.s) (.slice va.K.A va.K.n va.K.c) (.slice va.K.B va.K.m va.K.d) ∧ C3 wr (w.heap.size + 1) (.bool false) (.slice none 0 0) (.slice none 0 0) ∧ Below w.heap.size w wr ∧ w1.heap.size < wr.heap.size)) (fun iv _ _ => va.n - (intOf iv).toNat)
 case atStart => exact ⟨0, z, by omega, rfl, HST⟩
 case round =>
  clear HST HZ
  obtain ⟨i, zs, hi, rfl, HST⟩ := hrel
  by_cases hlt : i < va.n
  ·
   have i0 : (0 : Int) ≤ (i : Int) := by omega
   have i1 : (i : Int) < (va.n : Int) := by omega
   obtain ⟨b, off, hvA, _, hbw, hc⟩ := HW0.out.1.mem (by omega)
   obtain ⟨x, X, hx, hX, hxv, hxr⟩ := HW0.out.2.1.get i (by rw [HLL.out.1]; omega)
   have HVA := Lib.hid hvA
   have HX := Lib.hid (And.intro hx (And.intro hX hxv))
   have HXR := Lib.hid hxr
   have HC := Lib.hid (hc i x hx)
   have HALL : Hid (∀ w', Below wr.heap.size wr w' → C3 w' w1.heap.size (.bool zs.s) (.slice zs.A zs.n zs.c) (.slice zs.B zs.m zs.d) ∧ Rt w' (w.heap.size + 2) zs (atL (atV V) (L.take i) k) ∧ Rw w' x.r X.2 28500000000 ∧ (Nums w' A n lv ∧ RdV w' 28500000000 lv V) ∧ C5 w' w.heap.size (.int .i64 va.s) (.slice va.A va.n va.c) (.bool va.K.s) (.slice va.K.A va.K.n va.K.c) (.slice va.K.B va.K.m va.K.d) ∧ C3 w' (w.heap.size + 1) (.bool false) (.slice none 0 0) (.slice none 0 0) ∧ Below w.heap.size w w') := fun w' h => by
    have h2 := HST.out.2.2.2.2.2.1.trans (h.mono HST.out.2.2.2.2.2.1.size)
    exact ⟨HST.out.1.below h, HST.out.2.1.below h, HXR.out.below h2, ⟨HV0.out.1.below h2, RdV.below h2 HV0.out.2⟩, HST.out.2.2.2.1.below h, HST.out.2.2.2.2.1.below h, h2⟩
   have HXC : Hid (∀ w', Below wr.heap.size wr w' → At4 w' b (off + i * 4) x) := fun w' h => HC.out.keep ((HALL.out _ h).2.2.2.2.2.2.block b hbw)
   have hw1 : w1.heap.size < wr.heap.size := HST.out.2.2.2.2.2.2
   have HSZ : Hid (bndA la i ≤ 28500000000 ∧ x.r.n + x.r.m + 1 + 4 ≤ 28500000000) := by
    have h1 := costK_mono la (show i + 1 ≤ va.n by omega)
    rw [costK_succ HX.out.1] at h1
    have h2 := HCO.out
    unfold cost at h2
    refine ⟨?_, by omega⟩
    unfold bndA
    omega
   clear hx hX hxv hxr hc hvA
   obtain ⟨a0, a1, a2, a3, a4⟩ := (HALL.out _ (Below.refl _ _)).2.2.2.2.1.facts
   rw [HVA.out] at a1
   obtain ⟨x0, x1, x2, x3⟩ := HXC.out _ (Below.refl _ _)
   by_cases hin : 0 ≤ x.v ∧ x.v < n
   ·
    obtain ⟨j, hj⟩ : ∃ j : Nat, x.v = (j : Int) := ⟨x.v.toNat, by omega⟩
    have HJ := Lib.hid hj
    have j0 : (0 : Int) ≤ (j : Int) := by omega
    have j1 : (j : Int) < (n : Int) := by omega
    rw [hj] at x0
    obtain ⟨vb, voff, rfl, hvb, hvc⟩ := HV0.out.1.mem (by omega)
    obtain ⟨y, Y, hy, hY, hyr⟩ := HV0.out.2.get j (by rw [HVL.out.1]; omega)
    have hyv : atV V (j : Int) = Y := by unfold atV; rw [if_pos (by omega), Int.toNat_natCast, hY]; rfl
    have HYV := Lib.hid hyv
    have HSY := Lib.hid (HSV.out Y (List.mem_of_getElem? hY))
    have HYC : Hid (∀ w', Below wr.heap.size wr w' → At3 w' vb (voff + j * 3) y) := fun w' h => (hvc j y hy).keep ((HALL.out _ h).2.2.2.2.2.2.block vb hvb)
    have HY : Hid (∀ w', Below wr.heap.size wr w' → Rw w' y Y 28500000000) := fun w' h => hyr.below (HALL.out _ h).2.2.2.2.2.2
    obtain ⟨y0, y1, y2⟩ := HYC.out _ (Below.refl _ _)
    obtain ⟨s0, s1, s2, t0, t1, t2⟩ := (HALL.out _ (Below.refl _ _)).1.facts
    clear hj hy hY hyr hyv hvc hin
    have hbs1 := HB1.out.size
    have n1 : ¬ w.heap.size = w1.heap.size := by omega
    have n2 : ¬ w1.heap.size = w.heap.size := by omega
    have n3 : ¬ b = w1.heap.size := by omega
    have n4 : ¬ w1.heap.size = b := by omega
    have n5 : ¬ vb = w1.heap.size := by omega
    have n6 : ¬ w1.heap.size = vb := by omega
    go_wp2_with fail
    refine wp_region_held_drew (S := fun w' => w'.cell? ⟨w.heap.size, 1, none⟩ = some (.slice (some ⟨b, off, none⟩) va.n va.c) ∧ w'.cell? ⟨b, off + i * 4 + 1, none⟩ = some (.bool x.r.s) ∧ w'.cell? ⟨b, off + i * 4 + 2, none⟩ = some (.slice x.r.A x.r.n x.r.c) ∧ w'.cell? ⟨b, off + i * 4 + 3, none⟩ = some (.slice x.r.B x.r.m x.r.d) ∧ w'.cell? ⟨vb, voff + j * 3, none⟩ = some (.bool y.s) ∧ w'.cell? ⟨vb, voff + j * 3 + 1, none⟩ = some (.slice y.A y.n y.c) ∧ w'.cell? ⟨vb, voff + j * 3 + 2, none⟩ = some (.slice y.B y.m y.d)) (by kernel_rfl) ?_ (fun hHeld => ?_)
    ·
     (try dsimp only)
     go_keep
    refine tk (i := 1) (h := ?_)
    try simp only [zR]
    refine tk (i := 2) (h := ?_)
    try simp only [zR]
    refine tk (i := 3) (h := ?_)
    try simp only [zR]
    refine tk (i := 4) (h := ?_)
    try simp only [zR]
    refine tk (i := 5) (h := ?_)
    try simp only [zR]
    refine tk (i := 6) (h := ?_)
    try simp only [zR]
    refine tk (i := 7) (h := ?_)
    try simp only [zR]
    refine tk (i := 8) (h := ?_)
    try simp only [zR]
    refine tk (i := 9) (h := ?_)
    try simp only [zR]
    refine tk (i := 10) (h := ?_)
    try simp only [zR]
    refine tr [0, 11] ?_
    refine tc (h := fun K hK => ?_) (hs := tc (h := fun K hK => ?_) (hs := tn))
    ·
     skip
     try go_simp
     try go_wp2_with fail
     refine hK.out _ _ ?_ (fun hHeld => ?_)
     · (try dsimp only); go_keep
     clear hK K
     try simp only [zR]
     refine tr [11] ?_
     refine tc (h := fun K hK => ?_) (hs := tn)
     try go_simp
     go_at_call 57
     refine (rMul_c x.r y X.2 Y _ ((HALL.out _ (bel_At wr)).2.2.1.more (by omega)) (HY.out _ (bel_At wr))).mono ?_
     rintro ee w3 ⟨u, rfl, hu, hb⟩
     have hbW := (bel_At wr).trans hb
     clear a0 a1 a2 a3 a4 x0 x1 x2 x3 y0 y1 y2 s0 s1 s2 t0 t1 t2
     obtain ⟨a0, a1, a2, a3, a4⟩ := (HALL.out _ hbW).2.2.2.2.1.facts
     rw [HVA.out] at a1
     obtain ⟨x0, x1, x2, x3⟩ := HXC.out _ hbW
     obtain ⟨y0, y1, y2⟩ := HYC.out _ hbW
     obtain ⟨s0, s1, s2, t0, t1, t2⟩ := (HALL.out _ hbW).1.facts
     have HU := Lib.hid hu
     have HW3 := Lib.hid hbW
     clear hb hbW hu
     try go_wp2_with fail
     refine hK.out _ _ ?_ (fun hHeld => ?_)
     · (try dsimp only); go_keep
     clear hK K
     try simp only [zR]
     refine tr [12] ?_
     refine tc (h := fun K hK => ?_) (hs := tn)
     try go_simp
     go_at_call 30
     refine (rAdd_c zs u (atL (atV V) (L.take i) k) (X.2 * Y) _ (((HALL.out _ HW3.out).2.1.rw HST.out.2.2.1).more HSZ.out.1) ((HU.out.rw ((HXR.out.tight).mul HSY.out)).more HSZ.out.2)).mono ?_
     rintro ee w4 ⟨s, rfl, hs, hb⟩
     have hbW := HW3.out.trans (hb.mono HW3.out.size)
     clear a0 a1 a2 a3 a4 x0 x1 x2 x3 y0 y1 y2 s0 s1 s2 t0 t1 t2
     obtain ⟨a0, a1, a2, a3, a4⟩ := (HALL.out _ hbW).2.2.2.2.1.facts
     rw [HVA.out] at a1
     obtain ⟨x0, x1, x2, x3⟩ := HXC.out _ hbW
     obtain ⟨y0, y1, y2⟩ := HYC.out _ hbW
     obtain ⟨s0, s1, s2, t0, t1, t2⟩ := (HALL.out _ hbW).1.facts
     have hs' : Rt w4 w3.heap.size s (atL (atV V) (L.take i) k + X.2 * atV V (j : Int)) := by rw [HYV.out]; exact hs
     have HS := Lib.hid hs'
     have HW4 := Lib.hid hbW
     have hz3 := HW3.out.size
     have hz4 := HW4.out.size
     clear hb hbW hs hs'
     try go_wp2_with fail
     refine hK.out _ _ ?_ (fun hHeld => ?_)
     · (try dsimp only); go_keep
     clear hK K
     try simp only [zR]
     refine tr [13] ?_
     refine tc (h := fun K hK => ?_) (hs := tn)
     try go_simp
     try go_wp2_with fail
     refine hK.out _ _ ?_ (fun hHeld => ?_)
     · (try dsimp only); go_keep
     clear hK K
     try simp only [zR]
     refine wpAnyH_done (by kernel_rfl) ?_ _
     clear a0 a1 a2 a3 a4 x0 x1 x2 x3 y0 y1 y2 s0 s1 s2 t0 t1 t2
     go_wp2
     go_roundw
     case rel =>
      have hst := AtP.step (x := x) (X := X) (HALL.out _ HW4.out) (by rw [HJ.out]; exact HS.out) HX.out.1 HX.out.2.1 HX.out.2.2 HST.out.2.2.1 HXR.out HSV.out (by omega) (by omega) (by omega)
      exact ⟨i + 1, s, by omega, by go_num, hst⟩
     case measure => simp [intOf]; omega
    ·
     skip
     try go_simp
     go_at_call 57
     refine (rMul_c x.r y X.2 Y _ ((HALL.out _ (bel_At wr)).2.2.1.more (by omega)) (HY.out _ (bel_At wr))).mono ?_
     rintro ee w3 ⟨u, rfl, hu, hb⟩
     have hbW := (bel_At wr).trans hb
     clear a0 a1 a2 a3 a4 x0 x1 x2 x3 y0 y1 y2 s0 s1 s2 t0 t1 t2
     obtain ⟨a0, a1, a2, a3, a4⟩ := (HALL.out _ hbW).2.2.2.2.1.facts
     rw [HVA.out] at a1
     obtain ⟨x0, x1, x2, x3⟩ := HXC.out _ hbW
     obtain ⟨y0, y1, y2⟩ := HYC.out _ hbW
     obtain ⟨s0, s1, s2, t0, t1, t2⟩ := (HALL.out _ hbW).1.facts
     have HU := Lib.hid hu
     have HW3 := Lib.hid hbW
     clear hb hbW hu
     try go_wp2_with fail
     refine hK.out _ _ ?_ (fun hHeld => ?_)
     · (try dsimp only); go_keep
     clear hK K
     try simp only [zR]
     refine tr [0] ?_
     refine tc (h := fun K hK => ?_) (hs := tn)
     try go_simp
     try go_wp2_with fail
     refine hK.out _ _ ?_ (fun hHeld => ?_)
     · (try dsimp only); go_keep
     clear hK K
     try simp only [zR]
     refine tr [12] ?_
     refine tc (h := fun K hK => ?_) (hs := tn)
     try go_simp
     go_at_call 30
     refine (rAdd_c zs u (atL (atV V) (L.take i) k) (X.2 * Y) _ (((HALL.out _ HW3.out).2.1.rw HST.out.2.2.1).more HSZ.out.1) ((HU.out.rw ((HXR.out.tight).mul HSY.out)).more HSZ.out.2)).mono ?_
     rintro ee w4 ⟨s, rfl, hs, hb⟩
     have hbW := HW3.out.trans (hb.mono HW3.out.size)
     clear a0 a1 a2 a3 a4 x0 x1 x2 x3 y0 y1 y2 s0 s1 s2 t0 t1 t2
     obtain ⟨a0, a1, a2, a3, a4⟩ := (HALL.out _ hbW).2.2.2.2.1.facts
     rw [HVA.out] at a1
     obtain ⟨x0, x1, x2, x3⟩ := HXC.out _ hbW
     obtain ⟨y0, y1, y2⟩ := HYC.out _ hbW
     obtain ⟨s0, s1, s2, t0, t1, t2⟩ := (HALL.out _ hbW).1.facts
     have hs' : Rt w4 w3.heap.size s (atL (atV V) (L.take i) k + X.2 * atV V (j : Int)) := by rw [HYV.out]; exact hs
     have HS := Lib.hid hs'
     have HW4 := Lib.hid hbW
     have hz3 := HW3.out.size
     have hz4 := HW4.out.size
     clear hb hbW hs hs'
     try go_wp2_with fail
     refine hK.out _ _ ?_ (fun hHeld => ?_)
     · (try dsimp only); go_keep
     clear hK K
     try simp only [zR]
     refine tr [13] ?_
     refine tc (h := fun K hK => ?_) (hs := tn)
     try go_simp
     try go_wp2_with fail
     refine hK.out _ _ ?_ (fun hHeld => ?_)
     · (try dsimp only); go_keep
     clear hK K
     try simp only [zR]
     refine wpAnyH_done (by kernel_rfl) ?_ _
     clear a0 a1 a2 a3 a4 x0 x1 x2 x3 y0 y1 y2 s0 s1 s2 t0 t1 t2
     go_wp2
     go_roundw
     case rel =>
      have hst := AtP.step (x := x) (X := X) (HALL.out _ HW4.out) (by rw [HJ.out]; exact HS.out) HX.out.1 HX.out.2.1 HX.out.2.2 HST.out.2.2.1 HXR.out HSV.out (by omega) (by omega) (by omega)
      exact ⟨i + 1, s, by omega, by go_num, hst⟩
     case measure => simp [intOf]; omega
   ·
    have h0 : atV V x.v = 0 := by
     unfold atV
     split
     · rw [List.getElem?_eq_none (by rw [← HVL.out.2, HVL.out.1]; omega)]; rfl
     · rfl
    have H0 := Lib.hid h0
    have hcase : x.v < 0 ∨ (¬ x.v < 0 ∧ (n : Int) ≤ x.v) := by omega
    clear h0 hin
    rcases hcase with h1 | ⟨h1, h2⟩
    ·
     have h1' : ¬ 0 ≤ x.v := by omega
     go_wp2
     go_roundw
     case rel => exact ⟨i + 1, zs, by omega, by go_num, AtP.idle HST.out HX.out.1 HX.out.2.1 HX.out.2.2 H0.out⟩
     case measure => simp [intOf]; omega
    ·
     have h1' : 0 ≤ x.v := by omega
     have h2' : ¬ x.v < (n : Int) := by omega
     go_wp2
     go_roundw
     case rel => exact ⟨i + 1, zs, by omega, by go_num, AtP.idle HST.out HX.out.1 HX.out.2.1 HX.out.2.2 H0.out⟩
     case measure => simp [intOf]; omega
  ·
   have i1 : ¬ (i : Int) < (va.n : Int) := by omega
   have heq : L.take i = L := List.take_of_length_le (by rw [← HLL.out.2, HLL.out.1]; omega)
   rw [heq] at HST
   have hbd : Hid (bndA la i ≤ 1100) := by
    have h1 := costK_mono la (show i ≤ va.n by omega)
    have h2 := HCO.out
    unfold cost at h2
    show bndA la i ≤ 1100
    unfold bndA
    omega
   obtain ⟨a0, a1, a2, a3, a4⟩ := HST.out.2.2.2.1.facts
   obtain ⟨s0, s1, s2, t0, t1, t2⟩ := HST.out.1.facts
   obtain ⟨q0, q1, q2, r0, r1, r2⟩ := HST.out.2.2.2.2.1.facts
   have hsw := HST.out.2.2.2.2.2.2
   clear heq
   go_wp2
   refine ret3 (fn := Tryz.f49) Tryz.results49 rfl rfl HST.out.2.2.2.2.1 ?_
   exact ⟨zs, rfl, (HST.out.2.1.put (by omega) _ _ _).lower (by omega), HST.out.2.2.1.more hbd.out, HST.out.2.2.2.2.2.1.trans (put3_below (by omega) _ _ _)⟩
end Go.Proofs.YtgffkaconhonlaaGreat

namespace Go.Proofs.YtgffkaconhonlaaGreat
set_option maxRecDepth 20000
open Go.RowKit
structure RinT (w : World) (v : Cv) (l : List Tv) (L : List (Int × Rat)) (k : Rat) : Prop where
 cap : v.n ≤ v.c
 n : v.n ≤ 1000
 row : Tms w 0 v.A v.n l
 rd : Rds w 150 l L
 num : Rw w v.K k 150
 cost : Go.Proofs.YtgffkaconhonlaaGreat.cost v l ≤ 150
 v64 : ∀ x ∈ l, -9223372036854775808 ≤ x.v ∧ x.v ≤ 9223372036854775807
theorem Raw.rinT {w : World} {v : Cv} {l : List Tv} (h : Raw w v l) (hc : cost v l ≤ 150) (h64 : ∀ x ∈ l, -9223372036854775808 ≤ x.v ∧ x.v ≤ 9223372036854775807) : ∃ L k, RinT w v l L k := by
 have hl := h.fit.row.len
 obtain ⟨L, hL⟩ := rds_ex (p := 150) l fun x hx => by
  obtain ⟨i, hi, e⟩ := List.getElem_of_mem hx
  have := cost_get (v := v) hl (show l[i]? = some x by rw [List.getElem?_eq_getElem hi, e])
  exact ⟨h.t x hx, by omega, by omega⟩
 obtain ⟨k, hk⟩ := h.k.rw (p := 150) (by unfold Go.Proofs.YtgffkaconhonlaaGreat.cost at hc; omega) (by unfold Go.Proofs.YtgffkaconhonlaaGreat.cost at hc; omega)
 have hn : v.n ≤ 150 := by
  have := costK_len l v.n (by omega)
  unfold Go.Proofs.YtgffkaconhonlaaGreat.cost at hc; omega
 exact ⟨L, k, h.fit.cap, by omega, h.fit.row, hL, hk, hc, h64⟩
theorem RinT.below {w w' : World} {v : Cv} {l : List Tv} {L : List (Int × Rat)} {k : Rat} (h : RinT w v l L k) (hb : Below w.heap.size w w') : RinT w' v l L k :=
 ⟨h.cap, h.n, h.row.below hb, h.rd.below hb, h.num.below hb, h.cost, h.v64⟩
theorem RinT.kin {w : World} {v : Cv} {l : List Tv} {L : List (Int × Rat)} {k : Rat} {N : Nat} {ok : Bool} (h : RinT w v l L k) (ho : ok = true ↔ IsS w v l (N : Int)) : KinOf N 150 w ⟨v, L, k, ok⟩ := ⟨h.cap, h.n, h.num, l, h.row, h.rd, ho⟩
structure VinT (n : Nat) (w : World) (A : Option Addr) (lv : List Rv) (V : List Rat) : Prop where
 row : Nums w A n lv
 rd : RdV w 4 lv V
 n : n ≤ 100
theorem VinT.below {n : Nat} {w w' : World} {A : Option Addr} {lv : List Rv} {V : List Rat} (h : VinT n w A lv V) (hb : Below w.heap.size w w') : VinT n w' A lv V := ⟨h.row.below hb, RdV.below hb h.rd, h.n⟩
set_option maxHeartbeats 3200000 in
theorem HoldsT_c (va : Cv) (A : Option Addr) (N c : Nat) (la : List Tv) (lv : List Rv) (L : List (Int × Rat)) (V : List Rat) (k : Rat) (w : World) (h : RinT w va la L k) (hV : VinT N w A lv V) :
  Calls Tryz.prog 15 #[.agg #[.int .i64 va.s, .slice va.A va.n va.c, .bool va.K.s, .slice va.K.A va.K.n va.K.c, .slice va.K.B va.K.m va.K.d], .slice A N c] w fun e w' => e = .returned (.bool (decide (atL (atV V) L k = 0))) ∧ Below w.heap.size w w' := by
 have ka := C5.new w (.int .i64 va.s) (.slice va.A va.n va.c) (.bool va.K.s) (.slice va.K.A va.K.n va.K.c) (.slice va.K.B va.K.m va.K.d)
 have hB : Below w.heap.size w (w.alloc (.cells #[.int .i64 va.s, .slice va.A va.n va.c, .bool va.K.s, .slice va.K.A va.K.n va.K.c, .slice va.K.B va.K.m va.K.d] 28)) := (Below.refl _ _).alloc (Nat.le_refl _) _
 have HB := Lib.hid hB
 have H := Lib.hid (And.intro h hV)
 obtain ⟨a0, a1, a2, a3, a4⟩ := ka.facts
 clear ka hB h hV
 go_enter Tryz.func15, Tryz.ntmps15
 go_wp2_with fail
 clear a0 a1 a2 a3 a4
 generalize w.alloc (.cells #[.int .i64 va.s, .slice va.A va.n va.c, .bool va.K.s, .slice va.K.A va.K.n va.K.c, .slice va.K.B va.K.m va.K.d] 28) = W at *
 have h1 := H.out.1.below HB.out
 have h2 := H.out.2.below HB.out
 refine (AtK_c va A N c la lv L V k W h1.cost h1.row h1.rd h1.num h2.row h2.rd (by have := h2.n; omega) h1.v64).mono ?_
 rintro e w1 ⟨z, rfl, hz, hsz, hb⟩
 have H1 : Hid (Below w.heap.size w w1) := HB.out.trans (hb.mono HB.out.size)
 have HZ := Lib.hid (And.intro hz hsz)
 clear hz hsz hb h1 h2
 go_wp2_with fail
 refine (Zero_any z _ w1 ((HZ.out.1.rw HZ.out.2).more (by omega))).mono ?_
 rintro e w2 ⟨rfl, hb⟩
 have H2 : Hid (Below w.heap.size w w2) := H1.out.trans (hb.mono H1.out.size)
 clear hb
 go_wp2
 go_ret
 exact ⟨rfl, H2.out⟩
set_option maxHeartbeats 3200000 in
theorem rHoldsT_c (va : Cv) (A : Option Addr) (N c : Nat) (la : List Tv) (lv : List Rv) (L : List (Int × Rat)) (V : List Rat) (k : Rat) (w : World) (h : RinT w va la L k) (hV : VinT N w A lv V) :
  Calls Tryz.prog 16 #[.agg #[.int .i64 va.s, .slice va.A va.n va.c, .bool va.K.s, .slice va.K.A va.K.n va.K.c, .slice va.K.B va.K.m va.K.d], .slice A N c] w fun e w' => e = .returned (.bool (decide (atL (atV V) L k = 0))) ∧ Below w.heap.size w w' := by
 have ka := C5.new w (.int .i64 va.s) (.slice va.A va.n va.c) (.bool va.K.s) (.slice va.K.A va.K.n va.K.c) (.slice va.K.B va.K.m va.K.d)
 have hB : Below w.heap.size w (w.alloc (.cells #[.int .i64 va.s, .slice va.A va.n va.c, .bool va.K.s, .slice va.K.A va.K.n va.K.c, .slice va.K.B va.K.m va.K.d] 28)) := (Below.refl _ _).alloc (Nat.le_refl _) _
 have HB := Lib.hid hB
 have H := Lib.hid (And.intro h hV)
 obtain ⟨a0, a1, a2, a3, a4⟩ := ka.facts
 clear ka hB h hV
 go_enter Tryz.func16, Tryz.ntmps16
 go_wp2_with fail
 clear a0 a1 a2 a3 a4
 generalize w.alloc (.cells #[.int .i64 va.s, .slice va.A va.n va.c, .bool va.K.s, .slice va.K.A va.K.n va.K.c, .slice va.K.B va.K.m va.K.d] 28) = W at *
 have h1 := H.out.1.below HB.out
 have h2 := H.out.2.below HB.out
 refine (rAtK_c va A N c la lv L V k W h1.cost h1.row h1.rd h1.num h2.row h2.rd (by have := h2.n; omega)).mono ?_
 rintro e w1 ⟨z, rfl, hz, hsz, hb⟩
 have H1 : Hid (Below w.heap.size w w1) := HB.out.trans (hb.mono HB.out.size)
 have HZ := Lib.hid (And.intro hz hsz)
 clear hz hsz hb h1 h2
 go_wp2_with fail
 refine (rZero_c z _ w1 ((HZ.out.1.rw HZ.out.2).more (by omega))).mono ?_
 rintro e w2 ⟨rfl, hb⟩
 have H2 : Hid (Below w.heap.size w w2) := H1.out.trans (hb.mono H1.out.size)
 clear hb
 go_wp2
 go_ret
 exact ⟨rfl, H2.out⟩
end Go.Proofs.YtgffkaconhonlaaGreat
