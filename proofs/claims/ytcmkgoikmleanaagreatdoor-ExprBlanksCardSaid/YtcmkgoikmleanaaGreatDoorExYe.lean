/-
  The document's reader: factors.
-/
import Derived.Test.YtcmkgoikmleanaaGreatDoorExYd
import Derived.Test.YtcmkgoikmleanaaGreatDoorMEb
namespace Go.Proofs.YtcmkgoikmleanaaGreatDoor
set_option maxRecDepth 20000
open Go.RowKit

/-- A part of the document's reader, wherever it begins. -/
def RPart (w0 : World) (g : Nat) (S : ByteArray) (f d : Nat) (m : Nat → Nat → PR) : Prop :=
  ∀ (w : World) (p n : Nat) (lg : Bool), RRd w0 g S w p 0 0 d lg → p ≤ S.size → Calls Tryz.prog f #[.pointer (some ⟨g, 0, none⟩)] w (RPost w0 g S d lg w (m p n))
set_option maxHeartbeats 3200000 in
theorem rfac_neg31 {w0 : World} {g : Nat} {lg : Bool} {S : ByteArray} (hs : S.size ≤ 100000) (w : World) (p : Nat) (h : RRd w0 g S w p 0 0 31 lg) (hp : p ≤ S.size) (HC : Hid (bt S (skp S p) = 45)) :
    Calls Tryz.prog 66 #[.pointer (some ⟨g, 0, none⟩)] w (RPost w0 g S 31 lg w (.err (skp S p) 4)) := by
  have hgl := h.lt
  have hw0 := h.below.size
  have h' := h.alloc (.cells #[.int .i64 0, .bool false, .slice none 0 0, .slice none 0 0, .string ⟨#[]⟩, .slice none 0 0] 27)
  have hb' := (But.refl g w).alloc (.cells #[.int .i64 0, .bool false, .slice none 0 0, .slice none 0 0, .string ⟨#[]⟩, .slice none 0 0] 27)
  have k_r := C6.new w (.int .i64 0) (.bool false) (.slice none 0 0) (.slice none 0 0) (.string ⟨#[]⟩) (.slice none 0 0)
  have hsz : (w.alloc (.cells #[.int .i64 0, .bool false, .slice none 0 0, .slice none 0 0, .string ⟨#[]⟩, .slice none 0 0] 27)).heap.size = w.heap.size + 1 := by simp
  have hq1 := skp_le S p
  have hq2 := skp_ge S hp
  go_enter Tryz.func66, Tryz.ntmps66
  go_wp2_with fail
  refine (rnext_ok h' hp hs).mono ?_
  rintro e w1 ⟨rfl, hr, hb⟩
  replace hb' := hb'.trans hb
  replace k_r := k_r.but hb (by omega)
  have hsz1 := hb.size
  clear hb h'
  generalize w.alloc (.cells #[.int .i64 0, .bool false, .slice none 0 0, .slice none 0 0, .string ⟨#[]⟩, .slice none 0 0] 27) = wa at *
  generalize skp S p = q at *
  have i45 : ((bt S q).toNat : Int) = 45 := by rw [HC.out]; rfl
  rw [i45]
  clear i45
  go_wp2_with fail
  refine (rwithin_err hr).mono ?_
  rintro e w2 ⟨rfl, hr2, hb2⟩
  replace hb' := hb'.trans hb2
  replace k_r := k_r.but hb2 (by omega)
  obtain ⟨s0, s1, s2, s3, s4, s5⟩ := k_r.facts
  obtain ⟨r0, r1, r2, r3, r4, r5⟩ := k_r.thaw
  go_wp2
  refine ret6 (fn := Tryz.f66) Tryz.results66 rfl rfl k_r ?_
  exact ⟨Ez, q, 31, lg, rfl, hr2.put (by omega) (by omega) _ _ _ _ _ _, by omega, Nat.le_refl _, fun h => h, hb'.put (Nat.le_refl _) _ _ _ _ _ _⟩
set_option maxHeartbeats 3200000 in
theorem rfac_br31 {w0 : World} {g : Nat} {lg : Bool} {S : ByteArray} (hs : S.size ≤ 100000) (w : World) (p : Nat) (h : RRd w0 g S w p 0 0 31 lg) (hp : p ≤ S.size) (HC : Hid (bt S (skp S p) = 40)) :
    Calls Tryz.prog 66 #[.pointer (some ⟨g, 0, none⟩)] w (RPost w0 g S 31 lg w (.err (skp S p) 4)) := by
  have hgl := h.lt
  have hw0 := h.below.size
  have h' := h.alloc (.cells #[.int .i64 0, .bool false, .slice none 0 0, .slice none 0 0, .string ⟨#[]⟩, .slice none 0 0] 27)
  have hb' := (But.refl g w).alloc (.cells #[.int .i64 0, .bool false, .slice none 0 0, .slice none 0 0, .string ⟨#[]⟩, .slice none 0 0] 27)
  have k_r := C6.new w (.int .i64 0) (.bool false) (.slice none 0 0) (.slice none 0 0) (.string ⟨#[]⟩) (.slice none 0 0)
  have hsz : (w.alloc (.cells #[.int .i64 0, .bool false, .slice none 0 0, .slice none 0 0, .string ⟨#[]⟩, .slice none 0 0] 27)).heap.size = w.heap.size + 1 := by simp
  have hq1 := skp_le S p
  have hq2 := skp_ge S hp
  go_enter Tryz.func66, Tryz.ntmps66
  go_wp2_with fail
  refine (rnext_ok h' hp hs).mono ?_
  rintro e w1 ⟨rfl, hr, hb⟩
  replace hb' := hb'.trans hb
  replace k_r := k_r.but hb (by omega)
  have hsz1 := hb.size
  clear hb h'
  generalize w.alloc (.cells #[.int .i64 0, .bool false, .slice none 0 0, .slice none 0 0, .string ⟨#[]⟩, .slice none 0 0] 27) = wa at *
  generalize skp S p = q at *
  have i40 : ((bt S q).toNat : Int) = 40 := by rw [HC.out]; rfl
  rw [i40]
  clear i40
  go_wp2_with fail
  refine (rwithin_err hr).mono ?_
  rintro e w2 ⟨rfl, hr2, hb2⟩
  replace hb' := hb'.trans hb2
  replace k_r := k_r.but hb2 (by omega)
  obtain ⟨s0, s1, s2, s3, s4, s5⟩ := k_r.facts
  obtain ⟨r0, r1, r2, r3, r4, r5⟩ := k_r.thaw
  go_wp2
  refine ret6 (fn := Tryz.f66) Tryz.results66 rfl rfl k_r ?_
  exact ⟨Ez, q, 31, lg, rfl, hr2.put (by omega) (by omega) _ _ _ _ _ _, by omega, Nat.le_refl _, fun h => h, hb'.put (Nat.le_refl _) _ _ _ _ _ _⟩
set_option maxHeartbeats 6400000 in
theorem rfac_neg {w0 : World} {g d : Nat} {lg : Bool} {S : ByteArray} {m m2 : Nat → Nat → PR} (HP : Hid (RPart w0 g S 66 (d + 1) m)) (HG : Hid (∀ p n, p ≤ S.size → Good S p n (m p n))) (hd : d < 31) (hs : S.size ≤ 100000) (w : World) (p n : Nat) (h : RRd w0 g S w p 0 0 d lg) (hp : p ≤ S.size) (HC : Hid (bt S (skp S p) = 45)) :
    Calls Tryz.prog 66 #[.pointer (some ⟨g, 0, none⟩)] w (RPost w0 g S d lg w (signM S (some (m, m2)) (skp S p) n)) := by
  have hlt := bt_some (S := S) (p := skp S p) (by rw [HC.out]; decide)
  have HR : Hid (signM S (some (m, m2)) (skp S p) n = (m (skp S p + 1) n).then fun t u p2 n2 lg => .ok (mk n2 (.neg t)) (.neg u) p2 (n2 + 1) lg) := rfl
  have HGp := HG.out (skp S p + 1) n (by omega)
  generalize signM S (some (m, m2)) (skp S p) n = RES at *
  have hgl := h.lt
  have hw0 := h.below.size
  have h' := h.alloc (.cells #[.int .i64 0, .bool false, .slice none 0 0, .slice none 0 0, .string ⟨#[]⟩, .slice none 0 0] 27)
  have hb' := (But.refl g w).alloc (.cells #[.int .i64 0, .bool false, .slice none 0 0, .slice none 0 0, .string ⟨#[]⟩, .slice none 0 0] 27)
  have k_r := C6.new w (.int .i64 0) (.bool false) (.slice none 0 0) (.slice none 0 0) (.string ⟨#[]⟩) (.slice none 0 0)
  have hsz : (w.alloc (.cells #[.int .i64 0, .bool false, .slice none 0 0, .slice none 0 0, .string ⟨#[]⟩, .slice none 0 0] 27)).heap.size = w.heap.size + 1 := by simp
  have hq1 := skp_le S p
  have hq2 := skp_ge S hp
  go_enter Tryz.func66, Tryz.ntmps66
  go_wp2_with fail
  refine (rnext_ok h' hp hs).mono ?_
  rintro e w1 ⟨rfl, hr, hb⟩
  replace hb' := hb'.trans hb
  replace k_r := k_r.but hb (by omega)
  have hsz1 := hb.size
  clear hb h'
  generalize w.alloc (.cells #[.int .i64 0, .bool false, .slice none 0 0, .slice none 0 0, .string ⟨#[]⟩, .slice none 0 0] 27) = wa at *
  generalize skp S p = q at *
  have i45 : ((bt S q).toNat : Int) = 45 := by rw [HC.out]; rfl
  rw [i45]
  clear i45
  go_wp2_with fail
  refine (rwithin_ok hr hd (by omega)).mono ?_
  rintro e w2 ⟨rfl, hr2, hb2⟩
  replace hb' := hb'.trans hb2
  replace k_r := k_r.but hb2 (by omega)
  have hsz2 := hb2.size
  clear hb2 hr
  go_wp2_with fail
  refine (HP.out _ (q + 1) n lg hr2 (by omega)).mono ?_
  generalize m (q + 1) n = r0 at *
  cases r0 with
  | err a c =>
    rintro e w3 ⟨v, p3, d3, lg3, rfl, hr3, hp3, hd3, hd4, hb3⟩
    replace hb' := hb'.trans hb3
    replace k_r := k_r.but hb3 (by omega)
    have hsz3 := hb3.size
    have HR2 : Hid (RES = .err a c) := HR
    clear hb3 HR HGp hr2
    have k_e := C6.new w3 (.int .i64 v.k) (.bool v.r.s) (.slice v.r.A v.r.n v.r.c) (.slice v.r.B v.r.m v.r.d) (.string v.s) (.slice v.K v.n v.c)
    replace k_r := k_r.alloc (.cells #[.int .i64 v.k, .bool v.r.s, .slice v.r.A v.r.n v.r.c, .slice v.r.B v.r.m v.r.d, .string v.s, .slice v.K v.n v.c] 27)
    replace hr3 := hr3.alloc (.cells #[.int .i64 v.k, .bool v.r.s, .slice v.r.A v.r.n v.r.c, .slice v.r.B v.r.m v.r.d, .string v.s, .slice v.K v.n v.c] 27)
    replace hb' := hb'.alloc (.cells #[.int .i64 v.k, .bool v.r.s, .slice v.r.A v.r.n v.r.c, .slice v.r.B v.r.m v.r.d, .string v.s, .slice v.K v.n v.c] 27)
    have hgr : g ≠ w3.heap.size := by omega
    obtain ⟨d4, rfl⟩ : ∃ d4, d3 = d4 + 1 := ⟨d3 - 1, by omega⟩
    have i0 : ((d4 + 1 : Nat) : Int) = (d4 : Int) + 1 := by omega
    have i1 : (d4 : Int) < 31 := by omega
    have i2 : (0 : Int) ≤ (d4 : Int) := by omega
    obtain ⟨h0, h1, h2, h3, h4, h5⟩ := hr3.facts
    obtain ⟨f1, f2, f3, f4, f5⟩ := hr3.thaw
    obtain ⟨e0, e1, e2, e3, e4, e5⟩ := k_e.facts
    obtain ⟨s0, s1, s2, s3, s4, s5⟩ := k_r.facts
    obtain ⟨r0, r1, r2, r3, r4, r5⟩ := k_r.thaw
    go_upto_region 7 with fail
    have hr4 := hr3.set4 (q := d4) (v := (d4 : Int)) rfl
    have k4 := k_r.setOther (g := g) (by omega) 4 (.int .i64 (d4 : Int))
    have ke4 := k_e.setOther (g := g) (by omega) 4 (.int .i64 (d4 : Int))
    have hb4 := hb'.set 4 (.int .i64 (d4 : Int))
    have hz4 : ((w3.alloc (.cells #[.int .i64 v.k, .bool v.r.s, .slice v.r.A v.r.n v.r.c, .slice v.r.B v.r.m v.r.d, .string v.s, .slice v.K v.n v.c] 27)).setCell ⟨g, 4, none⟩ (.int .i64 (d4 : Int))).heap.size = w3.heap.size + 1 := by simp
    clear h0 h1 h2 h3 h4 h5 f1 f2 f3 f4 f5 e0 e1 e2 e3 e4 e5 s0 s1 s2 s3 s4 s5 r0 r1 r2 r3 r4 r5
    generalize (w3.alloc (.cells #[.int .i64 v.k, .bool v.r.s, .slice v.r.A v.r.n v.r.c, .slice v.r.B v.r.m v.r.d, .string v.s, .slice v.K v.n v.c] 27)).setCell ⟨g, 4, none⟩ (.int .i64 (d4 : Int)) = w4 at *
    obtain ⟨e0, e1, e2, e3, e4, e5⟩ := ke4.facts
    obtain ⟨s0, s1, s2, s3, s4, s5⟩ := k4.facts
    obtain ⟨r0, r1, r2, r3, r4, r5⟩ := k4.thaw
    have HZ4 := Lib.hid hz4
    have hlt4 := k4.lt
    clear hz4
    go_wp2
    have hz4 := HZ4.out
    have k5 := k4.put (.int .i64 7) (.bool false) (.slice none 0 0) (.slice none 0 0) (.string ⟨#[]⟩) (.slice (some ⟨w4.heap.size, 0, none⟩) 1 1)
    refine ret6c (fn := Tryz.f66) Tryz.results66 rfl rfl (k5.alloc _) ?_
    rw [HR2.out]
    exact ⟨⟨7, Rz, ⟨#[]⟩, some ⟨w4.heap.size, 0, none⟩, 1, 1⟩, p3, d4, lg3, rfl, (hr4.put (by omega) (by omega) _ _ _ _ _ _).alloc _, hp3, by omega, by omega, (hb4.put (Nat.le_refl _) _ _ _ _ _ _).alloc _⟩
  | ok t u p2 n2 lg2 =>
    rintro e w3 ⟨v, rfl, ht, hr3, hb3⟩
    replace hb' := hb'.trans hb3
    replace k_r := k_r.but hb3 (by omega)
    have hsz3 := hb3.size
    replace ht := ht.wide (Q := fun b => w.heap.size + 1 ≤ b) (fun b h1 => by omega)
    have HR2 : Hid (RES = .ok (mk n2 (.neg t)) (.neg u) p2 (n2 + 1) lg2) := HR
    clear hb3 HR HGp hr2
    have k_e := C6.new w3 (.int .i64 v.k) (.bool v.r.s) (.slice v.r.A v.r.n v.r.c) (.slice v.r.B v.r.m v.r.d) (.string v.s) (.slice v.K v.n v.c)
    replace k_r := k_r.alloc (.cells #[.int .i64 v.k, .bool v.r.s, .slice v.r.A v.r.n v.r.c, .slice v.r.B v.r.m v.r.d, .string v.s, .slice v.K v.n v.c] 27)
    replace hr3 := hr3.alloc (.cells #[.int .i64 v.k, .bool v.r.s, .slice v.r.A v.r.n v.r.c, .slice v.r.B v.r.m v.r.d, .string v.s, .slice v.K v.n v.c] 27)
    replace hb' := hb'.alloc (.cells #[.int .i64 v.k, .bool v.r.s, .slice v.r.A v.r.n v.r.c, .slice v.r.B v.r.m v.r.d, .string v.s, .slice v.K v.n v.c] 27)
    replace ht := ht.alloc (.cells #[.int .i64 v.k, .bool v.r.s, .slice v.r.A v.r.n v.r.c, .slice v.r.B v.r.m v.r.d, .string v.s, .slice v.K v.n v.c] 27)
    have hz3 : (w3.alloc (.cells #[.int .i64 v.k, .bool v.r.s, .slice v.r.A v.r.n v.r.c, .slice v.r.B v.r.m v.r.d, .string v.s, .slice v.K v.n v.c] 27)).heap.size = w3.heap.size + 1 := by simp
    have hgr : g ≠ w3.heap.size := by omega
    have i0 : ((d + 1 : Nat) : Int) = (d : Int) + 1 := by omega
    have i1 : (d : Int) < 31 := by omega
    have i2 : (0 : Int) ≤ (d : Int) := by omega
    obtain ⟨h0, h1, h2, h3, h4, h5⟩ := hr3.facts
    obtain ⟨f1, f2, f3, f4, f5⟩ := hr3.thaw
    obtain ⟨e0, e1, e2, e3, e4, e5⟩ := k_e.facts
    obtain ⟨s0, s1, s2, s3, s4, s5⟩ := k_r.facts
    obtain ⟨r0, r1, r2, r3, r4, r5⟩ := k_r.thaw
    go_upto_region 7 with fail
    have hr4 := hr3.set4 (q := d) (v := (d : Int)) rfl
    have k4 := k_r.setOther (g := g) (by omega) 4 (.int .i64 (d : Int))
    have ke4 := k_e.setOther (g := g) (by omega) 4 (.int .i64 (d : Int))
    have hb4 := hb'.set 4 (.int .i64 (d : Int))
    have hz4 : ((w3.alloc (.cells #[.int .i64 v.k, .bool v.r.s, .slice v.r.A v.r.n v.r.c, .slice v.r.B v.r.m v.r.d, .string v.s, .slice v.K v.n v.c] 27)).setCell ⟨g, 4, none⟩ (.int .i64 (d : Int))).heap.size = w3.heap.size + 1 := by simp
    have ht4 := ht.but ((But.refl g _).set 4 (.int .i64 (d : Int))) (fun b h1 => by omega)
    clear h0 h1 h2 h3 h4 h5 f1 f2 f3 f4 f5 e0 e1 e2 e3 e4 e5 s0 s1 s2 s3 s4 s5 r0 r1 r2 r3 r4 r5
    generalize (w3.alloc (.cells #[.int .i64 v.k, .bool v.r.s, .slice v.r.A v.r.n v.r.c, .slice v.r.B v.r.m v.r.d, .string v.s, .slice v.K v.n v.c] 27)).setCell ⟨g, 4, none⟩ (.int .i64 (d : Int)) = w4 at *
    obtain ⟨e0, e1, e2, e3, e4, e5⟩ := ke4.facts
    obtain ⟨s0, s1, s2, s3, s4, s5⟩ := k4.facts
    obtain ⟨r0, r1, r2, r3, r4, r5⟩ := k4.thaw
    have HZ4 := Lib.hid hz4
    have hlt4 := k4.lt
    clear hz4
    go_wp2
    have hz4 := HZ4.out
    have k5 := k4.put (.int .i64 7) (.bool false) (.slice none 0 0) (.slice none 0 0) (.string ⟨#[]⟩) (.slice (some ⟨w4.heap.size, 0, none⟩) 1 1)
    refine ret6c (fn := Tryz.f66) Tryz.results66 rfl rfl (k5.alloc _) ?_
    rw [HR2.out]
    have hP := put6_but (w := w4) (b := w.heap.size) (.int .i64 7) (.bool false) (.slice none 0 0) (.slice none 0 0) (.string ⟨#[]⟩) (.slice (some ⟨w4.heap.size, 0, none⟩) 1 1)
    have hzp : (put6 w4 w.heap.size (.int .i64 7) (.bool false) (.slice none 0 0) (.slice none 0 0) (.string ⟨#[]⟩) (.slice (some ⟨w4.heap.size, 0, none⟩) 1 1)).heap.size = w4.heap.size := by simp
    have hr5 := hr4.put (c := w.heap.size) (by omega) (by omega) (.int .i64 7) (.bool false) (.slice none 0 0) (.slice none 0 0) (.string ⟨#[]⟩) (.slice (some ⟨w4.heap.size, 0, none⟩) 1 1)
    have ht5 := ht4.but hP (fun b h1 => by omega)
    have hb5 := hb4.put (b := w.heap.size) (Nat.le_refl _) (.int .i64 7) (.bool false) (.slice none 0 0) (.slice none 0 0) (.string ⟨#[]⟩) (.slice (some ⟨w4.heap.size, 0, none⟩) 1 1)
    have hnew := heap_alloc_new (put6 w4 w.heap.size (.int .i64 7) (.bool false) (.slice none 0 0) (.slice none 0 0) (.string ⟨#[]⟩) (.slice (some ⟨w4.heap.size, 0, none⟩) 1 1)) (.cells #[.int .i64 v.k, .bool v.r.s, .slice v.r.A v.r.n v.r.c, .slice v.r.B v.r.m v.r.d, .string v.s, .slice v.K v.n v.c] 27)
    rw [hzp] at hnew
    have hz5 : ((put6 w4 w.heap.size (.int .i64 7) (.bool false) (.slice none 0 0) (.slice none 0 0) (.string ⟨#[]⟩) (.slice (some ⟨w4.heap.size, 0, none⟩) 1 1)).alloc (.cells #[.int .i64 v.k, .bool v.r.s, .slice v.r.A v.r.n v.r.c, .slice v.r.B v.r.m v.r.d, .string v.s, .slice v.K v.n v.c] 27)).heap.size = w4.heap.size + 1 := by simp
    have ht6 : Tw ((put6 w4 w.heap.size (.int .i64 7) (.bool false) (.slice none 0 0) (.slice none 0 0) (.string ⟨#[]⟩) (.slice (some ⟨w4.heap.size, 0, none⟩) 1 1)).alloc (.cells #[.int .i64 v.k, .bool v.r.s, .slice v.r.A v.r.n v.r.c, .slice v.r.B v.r.m v.r.d, .string v.s, .slice v.K v.n v.c] 27)) (fun b => w.heap.size + 1 ≤ b) (.neg u) ⟨7, Rz, ⟨#[]⟩, some ⟨w4.heap.size, 0, none⟩, 1, 1⟩ := ⟨w4.heap.size, v, rfl, by omega, by omega, hnew, ht5.alloc _⟩
    exact ⟨⟨7, Rz, ⟨#[]⟩, some ⟨w4.heap.size, 0, none⟩, 1, 1⟩, rfl, ht6.wide (fun b h1 => by omega), hr5.alloc _, hb5.alloc _⟩
set_option maxHeartbeats 6400000 in
theorem rfac_br {w0 : World} {g d : Nat} {lg : Bool} {S : ByteArray} {m m2 : Nat → Nat → PR} (HP : Hid (RPart w0 g S 24 (d + 1) m2)) (HG : Hid (∀ p n, p ≤ S.size → Good S p n (m2 p n))) (hd : d < 31) (hs : S.size ≤ 100000) (w : World) (p n : Nat) (h : RRd w0 g S w p 0 0 d lg) (hp : p ≤ S.size) (HC : Hid (bt S (skp S p) = 40)) :
    Calls Tryz.prog 66 #[.pointer (some ⟨g, 0, none⟩)] w (RPost w0 g S d lg w (brackM S (some (m, m2)) (skp S p) n)) := by
  have hlt := bt_some (S := S) (p := skp S p) (by rw [HC.out]; decide)
  have HR : Hid (brackM S (some (m, m2)) (skp S p) n = (m2 (skp S p + 1) n).then fun t u p2 n2 lg => if bt S (skp S p2) = 41 then .ok t u (skp S p2 + 1) n2 lg else .err (skp S p2) 2) := rfl
  have HGp := HG.out (skp S p + 1) n (by omega)
  generalize brackM S (some (m, m2)) (skp S p) n = RES at *
  have hgl := h.lt
  have hw0 := h.below.size
  have h' := h.alloc (.cells #[.int .i64 0, .bool false, .slice none 0 0, .slice none 0 0, .string ⟨#[]⟩, .slice none 0 0] 27)
  have hb' := (But.refl g w).alloc (.cells #[.int .i64 0, .bool false, .slice none 0 0, .slice none 0 0, .string ⟨#[]⟩, .slice none 0 0] 27)
  have k_r := C6.new w (.int .i64 0) (.bool false) (.slice none 0 0) (.slice none 0 0) (.string ⟨#[]⟩) (.slice none 0 0)
  have hsz : (w.alloc (.cells #[.int .i64 0, .bool false, .slice none 0 0, .slice none 0 0, .string ⟨#[]⟩, .slice none 0 0] 27)).heap.size = w.heap.size + 1 := by simp
  have hq1 := skp_le S p
  have hq2 := skp_ge S hp
  go_enter Tryz.func66, Tryz.ntmps66
  go_wp2_with fail
  refine (rnext_ok h' hp hs).mono ?_
  rintro e w1 ⟨rfl, hr, hb⟩
  replace hb' := hb'.trans hb
  replace k_r := k_r.but hb (by omega)
  have hsz1 := hb.size
  clear hb h'
  generalize w.alloc (.cells #[.int .i64 0, .bool false, .slice none 0 0, .slice none 0 0, .string ⟨#[]⟩, .slice none 0 0] 27) = wa at *
  generalize skp S p = q at *
  have i40 : ((bt S q).toNat : Int) = 40 := by rw [HC.out]; rfl
  rw [i40]
  clear i40
  go_wp2_with fail
  refine (rwithin_ok hr hd (by omega)).mono ?_
  rintro e w2 ⟨rfl, hr2, hb2⟩
  replace hb' := hb'.trans hb2
  replace k_r := k_r.but hb2 (by omega)
  have hsz2 := hb2.size
  clear hb2 hr
  go_wp2_with fail
  refine (HP.out _ (q + 1) n lg hr2 (by omega)).mono ?_
  generalize m2 (q + 1) n = r0 at *
  cases r0 with
  | err a c =>
    rintro e w3 ⟨v, p3, d3, lg3, rfl, hr3, hp3, hd3, hd4, hb3⟩
    replace hb' := hb'.trans hb3
    replace k_r := k_r.but hb3 (by omega)
    have hsz3 := hb3.size
    have HR2 : Hid (RES = .err a c) := HR
    have hc24 := HGp.2
    clear hb3 HR HGp hr2
    replace k_r := k_r.alloc (.cells #[.int .i64 v.k, .bool v.r.s, .slice v.r.A v.r.n v.r.c, .slice v.r.B v.r.m v.r.d, .string v.s, .slice v.K v.n v.c] 27)
    replace hr3 := hr3.alloc (.cells #[.int .i64 v.k, .bool v.r.s, .slice v.r.A v.r.n v.r.c, .slice v.r.B v.r.m v.r.d, .string v.s, .slice v.K v.n v.c] 27)
    replace hb' := hb'.alloc (.cells #[.int .i64 v.k, .bool v.r.s, .slice v.r.A v.r.n v.r.c, .slice v.r.B v.r.m v.r.d, .string v.s, .slice v.K v.n v.c] 27)
    go_wp2_with fail
    refine (rsign_err hr3 hc24 hp3 hs).mono ?_
    rintro e w4 ⟨rfl, hr4, hb4⟩
    replace hb' := hb'.trans hb4
    replace k_r := k_r.but hb4 (by omega)
    have hp4 := skp_ge S hp3
    clear hb4 hr3
    go_wp2_with fail
    refine (rfail_err 2 hr4 hc24).mono ?_
    rintro e w5 ⟨rfl, hr5, hb5⟩
    replace hb' := hb'.trans hb5
    replace k_r := k_r.but hb5 (by omega)
    clear hb5 hr4
    obtain ⟨s0, s1, s2, s3, s4, s5⟩ := k_r.facts
    obtain ⟨r0, r1, r2, r3, r4, r5⟩ := k_r.thaw
    go_wp2
    refine ret6 (fn := Tryz.f66) Tryz.results66 rfl rfl k_r ?_
    rw [HR2.out]
    exact ⟨Ez, _, d3, lg3, rfl, hr5.put (by omega) (by omega) _ _ _ _ _ _, hp4, by omega, by omega, hb'.put (Nat.le_refl _) _ _ _ _ _ _⟩
  | ok t u p2 n2 lg2 =>
    rintro e w3 ⟨v, rfl, ht, hr3, hb3⟩
    replace hb' := hb'.trans hb3
    replace k_r := k_r.but hb3 (by omega)
    have hsz3 := hb3.size
    have hp3 := HGp.le
    replace ht := ht.lt.wide (Q := fun b => w.heap.size + 1 ≤ b ∧ b < w3.heap.size) (fun b ⟨h1, h2⟩ => ⟨by omega, h2⟩)
    have HR2 : Hid (RES = if bt S (skp S p2) = 41 then .ok t u (skp S p2 + 1) n2 lg2 else .err (skp S p2) 2) := HR
    clear hb3 HR HGp hr2
    have k_e := C6.new w3 (.int .i64 v.k) (.bool v.r.s) (.slice v.r.A v.r.n v.r.c) (.slice v.r.B v.r.m v.r.d) (.string v.s) (.slice v.K v.n v.c)
    replace k_r := k_r.alloc (.cells #[.int .i64 v.k, .bool v.r.s, .slice v.r.A v.r.n v.r.c, .slice v.r.B v.r.m v.r.d, .string v.s, .slice v.K v.n v.c] 27)
    replace hr3 := hr3.alloc (.cells #[.int .i64 v.k, .bool v.r.s, .slice v.r.A v.r.n v.r.c, .slice v.r.B v.r.m v.r.d, .string v.s, .slice v.K v.n v.c] 27)
    replace hb' := hb'.alloc (.cells #[.int .i64 v.k, .bool v.r.s, .slice v.r.A v.r.n v.r.c, .slice v.r.B v.r.m v.r.d, .string v.s, .slice v.K v.n v.c] 27)
    replace ht := ht.alloc (.cells #[.int .i64 v.k, .bool v.r.s, .slice v.r.A v.r.n v.r.c, .slice v.r.B v.r.m v.r.d, .string v.s, .slice v.K v.n v.c] 27)
    have hz3 : (w3.alloc (.cells #[.int .i64 v.k, .bool v.r.s, .slice v.r.A v.r.n v.r.c, .slice v.r.B v.r.m v.r.d, .string v.s, .slice v.K v.n v.c] 27)).heap.size = w3.heap.size + 1 := by simp
    have hgr : g ≠ w3.heap.size := by omega
    by_cases h41 : bt S (skp S p2) = 41
    · have hres : Hid (RES = .ok t u (skp S p2 + 1) n2 lg2) := by show _ = _; rw [HR2.out, if_pos h41]
      go_wp2_with fail
      refine (rsign_yes hr3 hp3 hs h41).mono ?_
      rintro e w4 ⟨rfl, hr4, hb4⟩
      replace hb' := hb'.trans hb4
      replace k_r := k_r.but hb4 (by omega)
      replace k_e := k_e.but hb4 (by omega)
      replace ht := ht.but hb4 (fun b h1 => by omega)
      clear hb4 hr3 h41 HR2
      have i0 : ((d + 1 : Nat) : Int) = (d : Int) + 1 := by omega
      have i1 : (d : Int) < 31 := by omega
      have i2 : (0 : Int) ≤ (d : Int) := by omega
      obtain ⟨h0, h1, h2, h3, h4, h5⟩ := hr4.facts
      obtain ⟨f1, f2, f3, f4, f5⟩ := hr4.thaw
      obtain ⟨e0, e1, e2, e3, e4, e5⟩ := k_e.facts
      obtain ⟨s0, s1, s2, s3, s4, s5⟩ := k_r.facts
      obtain ⟨r0, r1, r2, r3, r4, r5⟩ := k_r.thaw
      go_wp2
      refine ret6 (fn := Tryz.f66) Tryz.results66 rfl rfl (k_r.setOther (g := g) (by omega) 4 (.int .i64 (d : Int))) ?_
      rw [hres.out]
      exact ⟨v, rfl, ((ht.but ((But.refl g _).set 4 (.int .i64 (d : Int))) (fun b h1 => by omega)).but (put6_but _ _ _ _ _ _) (fun b h1 => by omega)).wide (fun b h1 => by omega), (hr4.set4 (q := d) rfl).put (by omega) (by omega) _ _ _ _ _ _, (hb'.set 4 _).put (Nat.le_refl _) _ _ _ _ _ _⟩
    · have hres : Hid (RES = .err (skp S p2) 2) := by show _ = _; rw [HR2.out, if_neg h41]
      go_wp2_with fail
      refine (rsign_no hr3 hp3 hs h41).mono ?_
      rintro e w4 ⟨rfl, hr4, hb4⟩
      replace hb' := hb'.trans hb4
      replace k_r := k_r.but hb4 (by omega)
      have hp4 := skp_ge S hp3
      clear hb4 hr3 h41 HR2 k_e ht
      go_wp2_with fail
      refine (rfail_ok 2 hr4).mono ?_
      rintro e w5 ⟨rfl, hr5, hb5⟩
      replace hb' := hb'.trans hb5
      replace k_r := k_r.but hb5 (by omega)
      clear hb5 hr4
      obtain ⟨s0, s1, s2, s3, s4, s5⟩ := k_r.facts
      obtain ⟨r0, r1, r2, r3, r4, r5⟩ := k_r.thaw
      go_wp2
      refine ret6 (fn := Tryz.f66) Tryz.results66 rfl rfl k_r ?_
      rw [hres.out]
      exact ⟨Ez, _, d + 1, lg || lg2, rfl, hr5.put (by omega) (by omega) _ _ _ _ _ _, hp4, by omega, by omega, hb'.put (Nat.le_refl _) _ _ _ _ _ _⟩
set_option maxHeartbeats 6400000 in
theorem rfac_num {w0 : World} {g d : Nat} {lg : Bool} {S : ByteArray} (hs : S.size ≤ 100000) (w : World) (p n : Nat) (h : RRd w0 g S w p 0 0 d lg) (hp : p ≤ S.size) (H45 : Hid (bt S (skp S p) ≠ 45)) (H40 : Hid (bt S (skp S p) ≠ 40)) (HDG : Hid (isDg (bt S (skp S p)) = true)) :
    Calls Tryz.prog 66 #[.pointer (some ⟨g, 0, none⟩)] w (RPost w0 g S d lg w (numb tv S (skp S p) n)) := by
  have HC0 : Hid (∀ w', RRd w0 g S w' (skp S p) 0 0 d lg → Calls Tryz.prog 99 #[.pointer (some ⟨g, 0, none⟩)] w' (RPost w0 g S d lg w' (numb tv S (skp S p) n))) := fun w' h => rnumb_c hs w' (skp S p) n h HDG.out
  generalize numb tv S (skp S p) n = RES2 at *
  have hgl := h.lt
  have hw0 := h.below.size
  have h' := h.alloc (.cells #[.int .i64 0, .bool false, .slice none 0 0, .slice none 0 0, .string ⟨#[]⟩, .slice none 0 0] 27)
  have hb' := (But.refl g w).alloc (.cells #[.int .i64 0, .bool false, .slice none 0 0, .slice none 0 0, .string ⟨#[]⟩, .slice none 0 0] 27)
  have k_r := C6.new w (.int .i64 0) (.bool false) (.slice none 0 0) (.slice none 0 0) (.string ⟨#[]⟩) (.slice none 0 0)
  have hsz : (w.alloc (.cells #[.int .i64 0, .bool false, .slice none 0 0, .slice none 0 0, .string ⟨#[]⟩, .slice none 0 0] 27)).heap.size = w.heap.size + 1 := by simp
  have hq1 := skp_le S p
  have hq2 := skp_ge S hp
  go_enter Tryz.func66, Tryz.ntmps66
  go_wp2_with fail
  refine (rnext_ok h' hp hs).mono ?_
  rintro e w1 ⟨rfl, hr, hb⟩
  replace hb' := hb'.trans hb
  replace k_r := k_r.but hb (by omega)
  have hsz1 := hb.size
  clear hb h'
  generalize w.alloc (.cells #[.int .i64 0, .bool false, .slice none 0 0, .slice none 0 0, .string ⟨#[]⟩, .slice none 0 0] 27) = wa at *
  generalize skp S p = q at *
  have n45 : (bt S q).toNat ≠ 45 := u8_ne (k := 45) (by omega) H45.out
  have i45 : ¬ (((bt S q).toNat : Int) = 45) := by omega
  have j45 : (((bt S q).toNat : Int) == 45) = false := beq_eq_false_iff_ne.2 i45
  clear n45
  have n40 : (bt S q).toNat ≠ 40 := u8_ne (k := 40) (by omega) H40.out
  have i40 : ¬ (((bt S q).toNat : Int) = 40) := by omega
  have j40 : (((bt S q).toNat : Int) == 40) = false := beq_eq_false_iff_ne.2 i40
  clear n40
  go_wp2_with fail
  refine (rdigit_c (bt S q) _).mono ?_
  rintro e wd ⟨rfl, rfl⟩
  rw [HDG.out]
  have HC := Lib.hid (HC0.out w1 hr)
  go_wp2_with fail
  refine (HC.out).mono ?_
  generalize RES2 = rr at *
  cases rr with
  | err a c =>
    rintro e w2 ⟨v, p3, d3, lg3, rfl, hr3, hp3, hd3, hd4, hb3⟩
    replace hb' := hb'.trans hb3
    replace k_r := k_r.but hb3 (by omega)
    obtain ⟨s0, s1, s2, s3, s4, s5⟩ := k_r.facts
    obtain ⟨r0, r1, r2, r3, r4, r5⟩ := k_r.thaw
    go_wp2
    refine ret6 (fn := Tryz.f66) Tryz.results66 rfl rfl k_r ?_
    exact ⟨v, p3, d3, lg3, rfl, hr3.put (by omega) (by omega) _ _ _ _ _ _, hp3, hd3, hd4, hb'.put (Nat.le_refl _) _ _ _ _ _ _⟩
  | ok t u p2 n2 lg2 =>
    rintro e w2 ⟨v, rfl, ht, hr3, hb3⟩
    replace hb' := hb'.trans hb3
    replace k_r := k_r.but hb3 (by omega)
    have hsz2 := hb3.size
    obtain ⟨s0, s1, s2, s3, s4, s5⟩ := k_r.facts
    obtain ⟨r0, r1, r2, r3, r4, r5⟩ := k_r.thaw
    go_wp2
    refine ret6 (fn := Tryz.f66) Tryz.results66 rfl rfl k_r ?_
    exact ⟨v, rfl, (ht.but (put6_but _ _ _ _ _ _) (fun b h1 => by omega)).wide (fun b h1 => by omega), hr3.put (by omega) (by omega) _ _ _ _ _ _, hb'.put (Nat.le_refl _) _ _ _ _ _ _⟩
set_option maxHeartbeats 6400000 in
theorem rfac_nm {w0 : World} {g d : Nat} {lg : Bool} {S : ByteArray} (hs : S.size ≤ 100000) (w : World) (p n : Nat) (h : RRd w0 g S w p 0 0 d lg) (hp : p ≤ S.size) (H45 : Hid (bt S (skp S p) ≠ 45)) (H40 : Hid (bt S (skp S p) ≠ 40)) (HDG : Hid (isDg (bt S (skp S p)) = false)) (HLW : Hid (isLw (bt S (skp S p)) = true)) :
    Calls Tryz.prog 66 #[.pointer (some ⟨g, 0, none⟩)] w (RPost w0 g S d lg w (name S (skp S p) n)) := by
  have HC0 : Hid (∀ w', RRd w0 g S w' (skp S p) 0 0 d lg → Calls Tryz.prog 100 #[.pointer (some ⟨g, 0, none⟩)] w' (RPost w0 g S d lg w' (name S (skp S p) n))) := fun w' h => rname_c hs w' (skp S p) n h (skp_ge S hp)
  generalize name S (skp S p) n = RES2 at *
  have hgl := h.lt
  have hw0 := h.below.size
  have h' := h.alloc (.cells #[.int .i64 0, .bool false, .slice none 0 0, .slice none 0 0, .string ⟨#[]⟩, .slice none 0 0] 27)
  have hb' := (But.refl g w).alloc (.cells #[.int .i64 0, .bool false, .slice none 0 0, .slice none 0 0, .string ⟨#[]⟩, .slice none 0 0] 27)
  have k_r := C6.new w (.int .i64 0) (.bool false) (.slice none 0 0) (.slice none 0 0) (.string ⟨#[]⟩) (.slice none 0 0)
  have hsz : (w.alloc (.cells #[.int .i64 0, .bool false, .slice none 0 0, .slice none 0 0, .string ⟨#[]⟩, .slice none 0 0] 27)).heap.size = w.heap.size + 1 := by simp
  have hq1 := skp_le S p
  have hq2 := skp_ge S hp
  go_enter Tryz.func66, Tryz.ntmps66
  go_wp2_with fail
  refine (rnext_ok h' hp hs).mono ?_
  rintro e w1 ⟨rfl, hr, hb⟩
  replace hb' := hb'.trans hb
  replace k_r := k_r.but hb (by omega)
  have hsz1 := hb.size
  clear hb h'
  generalize w.alloc (.cells #[.int .i64 0, .bool false, .slice none 0 0, .slice none 0 0, .string ⟨#[]⟩, .slice none 0 0] 27) = wa at *
  generalize skp S p = q at *
  have n45 : (bt S q).toNat ≠ 45 := u8_ne (k := 45) (by omega) H45.out
  have i45 : ¬ (((bt S q).toNat : Int) = 45) := by omega
  have j45 : (((bt S q).toNat : Int) == 45) = false := beq_eq_false_iff_ne.2 i45
  clear n45
  have n40 : (bt S q).toNat ≠ 40 := u8_ne (k := 40) (by omega) H40.out
  have i40 : ¬ (((bt S q).toNat : Int) = 40) := by omega
  have j40 : (((bt S q).toNat : Int) == 40) = false := beq_eq_false_iff_ne.2 i40
  clear n40
  go_wp2_with fail
  refine (rdigit_c (bt S q) _).mono ?_
  rintro e wd ⟨rfl, rfl⟩
  rw [HDG.out]
  go_wp2_with fail
  refine (rletter_c (bt S q) _).mono ?_
  rintro e wd ⟨rfl, rfl⟩
  rw [HLW.out]
  have HC := Lib.hid (HC0.out w1 hr)
  go_wp2_with fail
  refine (HC.out).mono ?_
  generalize RES2 = rr at *
  cases rr with
  | err a c =>
    rintro e w2 ⟨v, p3, d3, lg3, rfl, hr3, hp3, hd3, hd4, hb3⟩
    replace hb' := hb'.trans hb3
    replace k_r := k_r.but hb3 (by omega)
    obtain ⟨s0, s1, s2, s3, s4, s5⟩ := k_r.facts
    obtain ⟨r0, r1, r2, r3, r4, r5⟩ := k_r.thaw
    go_wp2
    refine ret6 (fn := Tryz.f66) Tryz.results66 rfl rfl k_r ?_
    exact ⟨v, p3, d3, lg3, rfl, hr3.put (by omega) (by omega) _ _ _ _ _ _, hp3, hd3, hd4, hb'.put (Nat.le_refl _) _ _ _ _ _ _⟩
  | ok t u p2 n2 lg2 =>
    rintro e w2 ⟨v, rfl, ht, hr3, hb3⟩
    replace hb' := hb'.trans hb3
    replace k_r := k_r.but hb3 (by omega)
    have hsz2 := hb3.size
    obtain ⟨s0, s1, s2, s3, s4, s5⟩ := k_r.facts
    obtain ⟨r0, r1, r2, r3, r4, r5⟩ := k_r.thaw
    go_wp2
    refine ret6 (fn := Tryz.f66) Tryz.results66 rfl rfl k_r ?_
    exact ⟨v, rfl, (ht.but (put6_but _ _ _ _ _ _) (fun b h1 => by omega)).wide (fun b h1 => by omega), hr3.put (by omega) (by omega) _ _ _ _ _ _, hb'.put (Nat.le_refl _) _ _ _ _ _ _⟩
set_option maxHeartbeats 6400000 in
theorem rfac_no {w0 : World} {g d : Nat} {lg : Bool} {S : ByteArray} (hs : S.size ≤ 100000) (w : World) (p : Nat) (h : RRd w0 g S w p 0 0 d lg) (hp : p ≤ S.size) (H45 : Hid (bt S (skp S p) ≠ 45)) (H40 : Hid (bt S (skp S p) ≠ 40)) (HDG : Hid (isDg (bt S (skp S p)) = false)) (HLW : Hid (isLw (bt S (skp S p)) = false)) :
    Calls Tryz.prog 66 #[.pointer (some ⟨g, 0, none⟩)] w (RPost w0 g S d lg w (.err (skp S p) 2)) := by
  have hgl := h.lt
  have hw0 := h.below.size
  have h' := h.alloc (.cells #[.int .i64 0, .bool false, .slice none 0 0, .slice none 0 0, .string ⟨#[]⟩, .slice none 0 0] 27)
  have hb' := (But.refl g w).alloc (.cells #[.int .i64 0, .bool false, .slice none 0 0, .slice none 0 0, .string ⟨#[]⟩, .slice none 0 0] 27)
  have k_r := C6.new w (.int .i64 0) (.bool false) (.slice none 0 0) (.slice none 0 0) (.string ⟨#[]⟩) (.slice none 0 0)
  have hsz : (w.alloc (.cells #[.int .i64 0, .bool false, .slice none 0 0, .slice none 0 0, .string ⟨#[]⟩, .slice none 0 0] 27)).heap.size = w.heap.size + 1 := by simp
  have hq1 := skp_le S p
  have hq2 := skp_ge S hp
  go_enter Tryz.func66, Tryz.ntmps66
  go_wp2_with fail
  refine (rnext_ok h' hp hs).mono ?_
  rintro e w1 ⟨rfl, hr, hb⟩
  replace hb' := hb'.trans hb
  replace k_r := k_r.but hb (by omega)
  have hsz1 := hb.size
  clear hb h'
  generalize w.alloc (.cells #[.int .i64 0, .bool false, .slice none 0 0, .slice none 0 0, .string ⟨#[]⟩, .slice none 0 0] 27) = wa at *
  generalize skp S p = q at *
  have n45 : (bt S q).toNat ≠ 45 := u8_ne (k := 45) (by omega) H45.out
  have i45 : ¬ (((bt S q).toNat : Int) = 45) := by omega
  have j45 : (((bt S q).toNat : Int) == 45) = false := beq_eq_false_iff_ne.2 i45
  clear n45
  have n40 : (bt S q).toNat ≠ 40 := u8_ne (k := 40) (by omega) H40.out
  have i40 : ¬ (((bt S q).toNat : Int) = 40) := by omega
  have j40 : (((bt S q).toNat : Int) == 40) = false := beq_eq_false_iff_ne.2 i40
  clear n40
  go_wp2_with fail
  refine (rdigit_c (bt S q) _).mono ?_
  rintro e wd ⟨rfl, rfl⟩
  rw [HDG.out]
  go_wp2_with fail
  refine (rletter_c (bt S q) _).mono ?_
  rintro e wd ⟨rfl, rfl⟩
  rw [HLW.out]
  go_wp2_with fail
  refine (rfail_ok 2 hr).mono ?_
  rintro e w3 ⟨rfl, hr3, hb3⟩
  replace hb' := hb'.trans hb3
  replace k_r := k_r.but hb3 (by omega)
  obtain ⟨s0, s1, s2, s3, s4, s5⟩ := k_r.facts
  obtain ⟨r0, r1, r2, r3, r4, r5⟩ := k_r.thaw
  go_wp2
  refine ret6 (fn := Tryz.f66) Tryz.results66 rfl rfl k_r ?_
  exact ⟨Ez, q, d, lg, rfl, hr3.put (by omega) (by omega) _ _ _ _ _ _, by omega, Nat.le_refl _, fun h => h, hb'.put (Nat.le_refl _) _ _ _ _ _ _⟩
theorem rfac_c {w0 : World} {g d : Nat} {S : ByteArray} {dp : Option ((Nat → Nat → PR) × (Nat → Nat → PR))} (hs : S.size ≤ 100000)
    (HS : ∀ (w : World) (p n : Nat) (lg : Bool), RRd w0 g S w p 0 0 d lg → p ≤ S.size → Hid (bt S (skp S p) = 45) → Calls Tryz.prog 66 #[.pointer (some ⟨g, 0, none⟩)] w (RPost w0 g S d lg w (signM S dp (skp S p) n)))
    (HB : ∀ (w : World) (p n : Nat) (lg : Bool), RRd w0 g S w p 0 0 d lg → p ≤ S.size → Hid (bt S (skp S p) = 40) → Calls Tryz.prog 66 #[.pointer (some ⟨g, 0, none⟩)] w (RPost w0 g S d lg w (brackM S dp (skp S p) n))) :
    RPart w0 g S 66 d (fac tv S dp) := by
  intro w p n lg h hp
  rw [fac_eq]
  by_cases h45 : bt S (skp S p) = 45
  · rw [if_pos h45]; exact HS w p n lg h hp h45
  · rw [if_neg h45]
    by_cases h40 : bt S (skp S p) = 40
    · rw [if_pos h40]; exact HB w p n lg h hp h40
    · rw [if_neg h40]
      cases hdg : isDg (bt S (skp S p)) with
      | true => rw [if_pos rfl]; exact rfac_num hs w p n h hp h45 h40 hdg
      | false =>
        rw [if_neg (by decide)]
        cases hlw : isLw (bt S (skp S p)) with
        | true => rw [if_pos rfl]; exact rfac_nm hs w p n h hp h45 h40 hdg hlw
        | false => rw [if_neg (by decide)]; exact rfac_no hs w p h hp h45 h40 hdg hlw
end Go.Proofs.YtcmkgoikmleanaaGreatDoor
