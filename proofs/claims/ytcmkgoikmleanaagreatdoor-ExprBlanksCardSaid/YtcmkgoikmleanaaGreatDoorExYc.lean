/-
  The document's reader: an expression of two; numbers.
-/
import Derived.Test.YtcmkgoikmleanaaGreatDoorExYb
import Derived.Deep.RegionHeld3
namespace Go.Proofs.YtcmkgoikmleanaaGreatDoor
set_option maxRecDepth 20000
open Go.RowKit

/-- What a part of the document's reader answers: its tree is new memory, or an error stands. -/
def RPost (w0 : World) (g : Nat) (S : ByteArray) (d : Nat) (lg0 : Bool) (w : World) : PR → Ending → World → Prop
  | .err a c, z, w' => ∃ (v : Ev) (p' d' : Nat) (lg' : Bool), z = .returned (.agg #[.int .i64 v.k, .bool v.r.s, .slice v.r.A v.r.n v.r.c, .slice v.r.B v.r.m v.r.d, .string v.s, .slice v.K v.n v.c]) ∧ RRd w0 g S w' p' c a d' lg' ∧ p' ≤ S.size ∧ d ≤ d' ∧ (d ≤ 31 → d' ≤ 31) ∧ But g w w'
  | .ok _ u p _ lg, z, w' => ∃ v : Ev, z = .returned (.agg #[.int .i64 v.k, .bool v.r.s, .slice v.r.A v.r.n v.r.c, .slice v.r.B v.r.m v.r.d, .string v.s, .slice v.K v.n v.c]) ∧ Tw w' (fun b => w.heap.size ≤ b) u v ∧ RRd w0 g S w' p 0 0 d (lg0 || lg) ∧ But g w w'
set_option maxHeartbeats 1600000 in
theorem two_c (k : Nat) (a b : Ev) (w : World) : Calls Tryz.prog 44 #[.int .i64 k, .agg #[.int .i64 a.k, .bool a.r.s, .slice a.r.A a.r.n a.r.c, .slice a.r.B a.r.m a.r.d, .string a.s, .slice a.K a.n a.c], .agg #[.int .i64 b.k, .bool b.r.s, .slice b.r.A b.r.n b.r.c, .slice b.r.B b.r.m b.r.d, .string b.s, .slice b.K b.n b.c]] w fun z w' => ∃ B, z = .returned (.agg #[.int .i64 k, .bool false, .slice none 0 0, .slice none 0 0, .string ⟨#[]⟩, .slice (some ⟨B, 0, none⟩) 2 2]) ∧ w.heap.size ≤ B ∧ B < w'.heap.size ∧ w'.heap[B]? = some (.cells #[.int .i64 a.k, .bool a.r.s, .slice a.r.A a.r.n a.r.c, .slice a.r.B a.r.m a.r.d, .string a.s, .slice a.K a.n a.c, .int .i64 b.k, .bool b.r.s, .slice b.r.A b.r.n b.r.c, .slice b.r.B b.r.m b.r.d, .string b.s, .slice b.K b.n b.c] 27 (0, 0)) ∧ Below w.heap.size w w' := by
  go_enter Tryz.func44, Tryz.ntmps44
  go_wp2
  have hz : ∀ (o1 o2 o3 o4 : Obj), ((((w.alloc o1).alloc o2).alloc o3).alloc o4).heap[w.heap.size + 1 + 1 + 1]? = some o4 := by
    intro o1 o2 o3 o4
    have h := heap_alloc_new (((w.alloc o1).alloc o2).alloc o3) o4
    have e : (((w.alloc o1).alloc o2).alloc o3).heap.size = w.heap.size + 1 + 1 + 1 := by simp
    rw [e] at h; exact h
  refine ret6c (fn := Tryz.f44) Tryz.results44 rfl rfl ((C6.newAt _ _ _ _ _ _ (by simp)).alloc _) ?_
  exact ⟨w.heap.size + 1 + 1 + 1, rfl, by omega, by simp, hz _ _ _ _, ((((Below.refl w.heap.size w).alloc (Nat.le_refl _) _).alloc (by simp) _).alloc (by simp; omega) _).alloc (by simp; omega) _⟩

theorem RRd.put3 {w0 w : World} {g p e b d : Nat} {lg : Bool} {S : ByteArray} (h : RRd w0 g S w p e b d lg) {c : Nat} (hg : c ≠ g) (hb : w0.heap.size ≤ c) (x0 x1 x2 : Value) : RRd w0 g S (put3 w c x0 x1 x2) p e b d lg :=
  ((h.other hg hb _ _).other hg hb _ _).other hg hb _ _
set_option maxHeartbeats 8000000 in
theorem rnumb_c {w0 : World} {g d : Nat} {lg : Bool} {S : ByteArray} (hs : S.size ≤ 100000) (w : World) (p n : Nat) (h : RRd w0 g S w p 0 0 d lg) (hd : isDg (bt S p) = true) :
    Calls Tryz.prog 99 #[.pointer (some ⟨g, 0, none⟩)] w (RPost w0 g S d lg w (numb tv S p n)) := by
  have hgl := h.lt
  have hw0 := h.below.size
  have hpl := bt_some (dg_pos hd)
  have h' := h.alloc (.cells #[.int .i64 0, .bool false, .slice none 0 0, .slice none 0 0, .string ⟨#[]⟩, .slice none 0 0] 27)
  have hb' := (But.refl g w).alloc (.cells #[.int .i64 0, .bool false, .slice none 0 0, .slice none 0 0, .string ⟨#[]⟩, .slice none 0 0] 27)
  have k_r := C6.new w (.int .i64 0) (.bool false) (.slice none 0 0) (.slice none 0 0) (.string ⟨#[]⟩) (.slice none 0 0)
  have hsz : (w.alloc (.cells #[.int .i64 0, .bool false, .slice none 0 0, .slice none 0 0, .string ⟨#[]⟩, .slice none 0 0] 27)).heap.size = w.heap.size + 1 := by simp
  have HR : Hid (numb tv S p n = if bt S (run isDg S p) = 46 then
    if run isDg S (run isDg S p + 1) = run isDg S p + 1 then .err (run isDg S p + 1) 2
    else numE tv S p (run isDg S (run isDg S p + 1)) n
  else numE tv S p (run isDg S p) n) := rfl
  have hq1 := run_pos hpl hd
  have hq2 := run_le isDg S (p := p) (by omega)
  have HX1 : run isDg S p - p ≤ 400 → ∃ r, Txt (S.extract p (run isDg S p)) r := fun h => txt_whole hq1 h hq2
  have HX2 : bt S (run isDg S p) = 46 → run isDg S p + 1 < run isDg S (run isDg S p + 1) → run isDg S (run isDg S p + 1) - p ≤ 400 → run isDg S (run isDg S p + 1) ≤ S.size → ∃ r, Txt (S.extract p (run isDg S (run isDg S p + 1))) r := fun h1 h2 h3 h4 => txt_point hq1 h1 h2 h3 h4
  clear hd
  generalize numb tv S p n = RES at *
  obtain ⟨h0, h1, h2, h3, h4, h5⟩ := h'.facts
  go_enter Tryz.func99, Tryz.ntmps99
  go_wp2_with fail
  clear h0 h1 h2 h3 h4 h5
  refine (rdigits_c h' (by omega) hs).mono ?_
  rintro e w1 ⟨rfl, hr, hb⟩
  replace hb' := hb'.trans hb
  replace k_r := k_r.but hb (by omega)
  have hsz1 := hb.size
  clear h' hb
  generalize w.alloc (.cells #[.int .i64 0, .bool false, .slice none 0 0, .slice none 0 0, .string ⟨#[]⟩, .slice none 0 0] 27) = wa at *
  generalize run isDg S p = a at *
  obtain ⟨h0, h1, h2, h3, h4, h5⟩ := hr.facts
  obtain ⟨f1, f2, f3, f4, f5⟩ := hr.thaw
  have j4 : (0 : Int) ≤ (a : Int) := by omega
  have j5 : (a : Int) ≤ 100000 := by omega
  by_cases h46 : bt S a = 46
  · have hal : a < S.size := bt_some (by rw [h46]; decide)
    have j3 : (a : Int) < (S.size : Int) := by omega
    have j6 : S[a].toNat = 46 := by rw [← bt_lt hal, h46]; rfl
    clear HX1
    rw [if_pos h46] at HR
    have HX := HX2 h46
    clear HX2 h46
    go_wp2_with fail
    go_quiet (fail)
    go_wp2_with fail
    clear h0 h1 h2 h3 h4 h5 f1 f2 f3 f4 f5
    refine (rdigits_c ((hr.drewN _).set1 (q := a + 1) (v := (a : Int) + 1) (by omega)) (by omega) hs).mono ?_
    rintro e w2 ⟨rfl, hr2, hb⟩
    have hsz2 : w1.heap.size ≤ w2.heap.size := by have h := hb.size; simpa using h
    replace hb' := ((hb'.drewN nq).set 1 (.int .i64 ((a : Int) + 1))).trans hb
    replace k_r := ((k_r.below (below_drewN' _ w1 nq)).setOther (by omega) 1 (.int .i64 ((a : Int) + 1))).but hb (by omega)
    clear hb hr
    have hq3 := le_run isDg S (a + 1)
    have hq4 := run_le isDg S (p := a + 1) (by omega)
    generalize run isDg S (a + 1) = z at *
    by_cases hz : z = a + 1
    · have hres : Hid (RES = .err (a + 1) 2) := by show _ = _; rw [HR.out]; rw [if_pos hz]
      have hzz : z - (a + 1) = 0 := by omega
      rw [hzz]
      clear HR HX
      obtain ⟨s0, s1, s2, s3, s4, s5⟩ := k_r.facts
      go_wp2_with fail
      refine (rfail_ok 2 hr2).mono ?_
      rintro e w3 ⟨rfl, hr3, hb3⟩
      replace hb' := hb'.trans hb3
      replace k_r := k_r.but hb3 (by omega)
      clear s0 s1 s2 s3 s4 s5
      obtain ⟨s0, s1, s2, s3, s4, s5⟩ := k_r.facts
      obtain ⟨r0, r1, r2, r3, r4, r5⟩ := k_r.thaw
      go_wp2
      refine ret6 (fn := Tryz.f99) Tryz.results99 rfl rfl k_r ?_
      rw [hres.out]
      subst hz
      exact ⟨Ez, a + 1, d, lg, rfl, hr3.put (by omega) (by omega) _ _ _ _ _ _, by omega, Nat.le_refl _, fun h => h, hb'.put (Nat.le_refl _) _ _ _ _ _ _⟩
    · rw [if_neg hz] at HR
      have i1 : ¬ (((z - (a + 1) : Nat) : Int) = 0) := by omega
      have i2 : (((z - (a + 1) : Nat) : Int) == 0) = false := beq_eq_false_iff_ne.2 i1
      replace HX := fun h => HX (by omega) h hq4
      obtain ⟨h0, h1, h2, h3, h4, h5⟩ := hr2.facts
      have hr := hr2
      clear hr2
      by_cases hsh : z - p ≤ 400
      · have j1 : (p : Int) ≤ (z : Int) := by omega
        have j0 : (0 : Int) ≤ (p : Int) := by omega
        have j2 : (z : Int) ≤ (S.size : Int) := by omega
        
        have hres : Hid (RES = .ok (mk n (.num (tv (S.extract p z)))) (.num (tv (S.extract p z))) z (n + 1) false) := by show _ = _; rw [HR.out]; unfold numE; rw [if_pos hsh]
        have HT := Lib.hid (tv_of (HX hsh))
        
        clear HX hsh HR
        have hnb : g < w2.heap.size := hr.lt
        have hne : g ≠ w2.heap.size := by omega
        have hrb := k_r.lt
        go_wp2_with fail
        go_region_held3 (fun w' => w'.cell? ⟨g, 0, none⟩ = some (.string S) ∧ w'.cell? ⟨g, 1, none⟩ = some (.int .i64 z)) (first | go_keep | exact ⟨(put3_cell hne _ _ _ _).trans h0, (put3_cell hne _ _ _ _).trans h1⟩)
          (first
          | (go_at_call 135
             refine (rfParse_v (S.extract p z) _ (w2.alloc (.cells #[.bool false, .slice none 0 0, .slice none 0 0] 24)).drew HT.out).mono ?_
             rintro e w5 ⟨y, rfl, ht, hb5⟩
             have hy := RP.of ht
             replace hr := ((hr.alloc (.cells #[.bool false, .slice none 0 0, .slice none 0 0] 24)).drew).next hb5
             replace hb' := ((hb'.alloc (.cells #[.bool false, .slice none 0 0, .slice none 0 0] 24)).drew).trans (.of hb5)
             replace k_r := ((k_r.alloc (.cells #[.bool false, .slice none 0 0, .slice none 0 0] 24)).drew).below hb5
             have k_n := (C3.new w2 (.bool false) (.slice none 0 0) (.slice none 0 0)).drew.below hb5
             obtain ⟨n0, n1, n2, n3, n4, n5⟩ := k_n.facts
             have hzd : (w2.alloc (.cells #[.bool false, .slice none 0 0, .slice none 0 0] 24)).drew.heap.size = w2.heap.size + 1 := by simp
             have hz5 := hb5.size
             clear h0 h1 h2 h3 h4 h5
             obtain ⟨h0, h1, h2, h3, h4, h5⟩ := hr.facts)
          | (go_at_call 135
             refine (rfParse_v (S.extract p z) _ w2.drew HT.out).mono ?_
             rintro e w5 ⟨y, rfl, ht, hb5⟩
             have hy := RP.of ht
             replace hr := (hr.drew).next hb5
             replace hb' := (hb'.drew).trans (.of hb5)
             replace k_r := (k_r.drew).below hb5
             have hzd : w2.drew.heap.size = w2.heap.size := rfl
             have hz5 := hb5.size
             clear h0 h1 h2 h3 h4 h5
             obtain ⟨h0, h1, h2, h3, h4, h5⟩ := hr.facts))
        · have hr8 := hr.alloc (.cells #[.bool y.s, .slice y.A y.n y.c, .slice y.B y.m y.d] 24)
          have hb8 := hb'.alloc (.cells #[.bool y.s, .slice y.A y.n y.c, .slice y.B y.m y.d] 24)
          have k8 := k_r.alloc (.cells #[.bool y.s, .slice y.A y.n y.c, .slice y.B y.m y.d] 24)
          have hzx : w5.heap.size ≤ (w5.alloc (.cells #[.bool y.s, .slice y.A y.n y.c, .slice y.B y.m y.d] 24)).heap.size := by simp
          have hk : ∀ b, w2.drew.heap.size ≤ b → b < w5.heap.size → (w5.alloc (.cells #[.bool y.s, .slice y.A y.n y.c, .slice y.B y.m y.d] 24)).heap[b]? = w5.heap[b]? := fun b h1 h2 => ((Below.refl w5.heap.size w5).alloc (Nat.le_refl _) (.cells #[.bool y.s, .slice y.A y.n y.c, .slice y.B y.m y.d] 24)).block b h2
          have ht8 : Tw (w5.alloc (.cells #[.bool y.s, .slice y.A y.n y.c, .slice y.B y.m y.d] 24)) (fun b => w.heap.size + 1 ≤ b) (.num (tv (S.extract p z))) ⟨1, y, ⟨#[]⟩, none, 0, 0⟩ :=
            ⟨rfl, (ht.lower (Nat.zero_le _)).keepB hy hzx hk, fun h1 A hA => Nat.le_trans (by omega) (hy.1 h1 A hA), fun h1 A hA => Nat.le_trans (by omega) (hy.2 h1 A hA)⟩
          obtain ⟨s0, s1, s2, s3, s4, s5⟩ := k8.facts
          obtain ⟨r0, r1, r2, r3, r4, r5⟩ := k8.thaw
          obtain ⟨g0, g1, g2, g3, g4, g5⟩ := hr8.facts
          obtain ⟨f1, f2, f3, f4, f5⟩ := hr8.thaw
          clear h0 h1 h2 h3 h4 h5
          go_wp2
          · rename_i hlg
            subst hlg
            refine ret6 (fn := Tryz.f99) Tryz.results99 rfl rfl (k8.setOther (by omega) 5 (.bool true)) ?_
            rw [hres.out]
            exact ⟨⟨1, y, ⟨#[]⟩, none, 0, 0⟩, rfl, ((ht8.but ((But.refl g _).set 5 (.bool true)) (fun b h1 => by omega)).but (put6_but _ _ _ _ _ _) (fun b h1 => by omega)).wide (fun b h1 => by omega), (hr8.set5 true).put (by omega) (by omega) _ _ _ _ _ _, (hb8.set 5 (.bool true)).put (Nat.le_refl _) _ _ _ _ _ _⟩
          · rename_i hlg
            have hlf : lg = false := by cases lg <;> simp_all
            subst hlf
            refine ret6 (fn := Tryz.f99) Tryz.results99 rfl rfl (k8.setOther (by omega) 5 (.bool false)) ?_
            rw [hres.out]
            exact ⟨⟨1, y, ⟨#[]⟩, none, 0, 0⟩, rfl, ((ht8.but ((But.refl g _).set 5 (.bool false)) (fun b h1 => by omega)).but (put6_but _ _ _ _ _ _) (fun b h1 => by omega)).wide (fun b h1 => by omega), (hr8.set5 false).put (by omega) (by omega) _ _ _ _ _ _, (hb8.set 5 (.bool false)).put (Nat.le_refl _) _ _ _ _ _ _⟩
        · have hr8 := hr.put3 (c := w2.heap.size) (by omega) (by omega) (.bool y.s) (.slice y.A y.n y.c) (.slice y.B y.m y.d)
          have hb8 := hb'.put3 (b := w2.heap.size) (by omega) (.bool y.s) (.slice y.A y.n y.c) (.slice y.B y.m y.d)
          have k8 := k_r.but (put3_but (b := w2.heap.size) (.bool y.s) (.slice y.A y.n y.c) (.slice y.B y.m y.d)) (by omega)
          have hzx : w5.heap.size ≤ (put3 w5 w2.heap.size (.bool y.s) (.slice y.A y.n y.c) (.slice y.B y.m y.d)).heap.size := by simp
          have hk : ∀ b, (w2.alloc (.cells #[.bool false, .slice none 0 0, .slice none 0 0] 24)).drew.heap.size ≤ b → b < w5.heap.size → (put3 w5 w2.heap.size (.bool y.s) (.slice y.A y.n y.c) (.slice y.B y.m y.d)).heap[b]? = w5.heap[b]? := fun b h1 h2 => (put3_but (b := w2.heap.size) (.bool y.s) (.slice y.A y.n y.c) (.slice y.B y.m y.d)).block b h2 (by omega)
          have ht8 : Tw (put3 w5 w2.heap.size (.bool y.s) (.slice y.A y.n y.c) (.slice y.B y.m y.d)) (fun b => w.heap.size + 1 ≤ b) (.num (tv (S.extract p z))) ⟨1, y, ⟨#[]⟩, none, 0, 0⟩ :=
            ⟨rfl, (ht.lower (Nat.zero_le _)).keepB hy hzx hk, fun h1 A hA => Nat.le_trans (by omega) (hy.1 h1 A hA), fun h1 A hA => Nat.le_trans (by omega) (hy.2 h1 A hA)⟩
          obtain ⟨s0, s1, s2, s3, s4, s5⟩ := k8.facts
          obtain ⟨r0, r1, r2, r3, r4, r5⟩ := k8.thaw
          obtain ⟨g0, g1, g2, g3, g4, g5⟩ := hr8.facts
          obtain ⟨f1, f2, f3, f4, f5⟩ := hr8.thaw
          clear h0 h1 h2 h3 h4 h5
          go_wp2
          · rename_i hlg
            subst hlg
            refine ret6 (fn := Tryz.f99) Tryz.results99 rfl rfl (k8.setOther (by omega) 5 (.bool true)) ?_
            rw [hres.out]
            exact ⟨⟨1, y, ⟨#[]⟩, none, 0, 0⟩, rfl, ((ht8.but ((But.refl g _).set 5 (.bool true)) (fun b h1 => by omega)).but (put6_but _ _ _ _ _ _) (fun b h1 => by omega)).wide (fun b h1 => by omega), (hr8.set5 true).put (by omega) (by omega) _ _ _ _ _ _, (hb8.set 5 (.bool true)).put (Nat.le_refl _) _ _ _ _ _ _⟩
          · rename_i hlg
            have hlf : lg = false := by cases lg <;> simp_all
            subst hlf
            refine ret6 (fn := Tryz.f99) Tryz.results99 rfl rfl (k8.setOther (by omega) 5 (.bool false)) ?_
            rw [hres.out]
            exact ⟨⟨1, y, ⟨#[]⟩, none, 0, 0⟩, rfl, ((ht8.but ((But.refl g _).set 5 (.bool false)) (fun b h1 => by omega)).but (put6_but _ _ _ _ _ _) (fun b h1 => by omega)).wide (fun b h1 => by omega), (hr8.set5 false).put (by omega) (by omega) _ _ _ _ _ _, (hb8.set 5 (.bool false)).put (Nat.le_refl _) _ _ _ _ _ _⟩
      · have j1 : (p : Int) ≤ (z : Int) := by omega
        have j0 : (0 : Int) ≤ (p : Int) := by omega
        have j2 : (z : Int) ≤ (S.size : Int) := by omega
        
        have hres : Hid (RES = .ok .bad (.num 0) z n true) := by show _ = _; rw [HR.out]; unfold numE; rw [if_neg hsh]
        have hsl : 400 < (S.extract p z).size ∧ (S.extract p z).size ≤ 1000000 := by rw [ByteArray.size_extract]; omega
        
        clear HX hsh HR
        have hnb : g < w2.heap.size := hr.lt
        have hne : g ≠ w2.heap.size := by omega
        have hrb := k_r.lt
        go_wp2_with fail
        go_region_held3 (fun w' => w'.cell? ⟨g, 0, none⟩ = some (.string S) ∧ w'.cell? ⟨g, 1, none⟩ = some (.int .i64 z)) (first | go_keep | exact ⟨(put3_cell hne _ _ _ _).trans h0, (put3_cell hne _ _ _ _).trans h1⟩)
          (first
          | (go_at_call 135
             refine (rParse_long (S.extract p z) (w2.alloc (.cells #[.bool false, .slice none 0 0, .slice none 0 0] 24)).drew hsl.1 hsl.2).mono ?_
             rintro e w5 ⟨y, rfl, ht, hb5⟩
             have hy := RP.of ht
             replace hr := ((hr.alloc (.cells #[.bool false, .slice none 0 0, .slice none 0 0] 24)).drew).next hb5
             replace hb' := ((hb'.alloc (.cells #[.bool false, .slice none 0 0, .slice none 0 0] 24)).drew).trans (.of hb5)
             replace k_r := ((k_r.alloc (.cells #[.bool false, .slice none 0 0, .slice none 0 0] 24)).drew).below hb5
             have k_n := (C3.new w2 (.bool false) (.slice none 0 0) (.slice none 0 0)).drew.below hb5
             obtain ⟨n0, n1, n2, n3, n4, n5⟩ := k_n.facts
             have hzd : (w2.alloc (.cells #[.bool false, .slice none 0 0, .slice none 0 0] 24)).drew.heap.size = w2.heap.size + 1 := by simp
             have hz5 := hb5.size
             clear h0 h1 h2 h3 h4 h5
             obtain ⟨h0, h1, h2, h3, h4, h5⟩ := hr.facts)
          | (go_at_call 135
             refine (rParse_long (S.extract p z) w2.drew hsl.1 hsl.2).mono ?_
             rintro e w5 ⟨y, rfl, ht, hb5⟩
             have hy := RP.of ht
             replace hr := (hr.drew).next hb5
             replace hb' := (hb'.drew).trans (.of hb5)
             replace k_r := (k_r.drew).below hb5
             have hzd : w2.drew.heap.size = w2.heap.size := rfl
             have hz5 := hb5.size
             clear h0 h1 h2 h3 h4 h5
             obtain ⟨h0, h1, h2, h3, h4, h5⟩ := hr.facts))
        · have hr8 := hr.alloc (.cells #[.bool y.s, .slice y.A y.n y.c, .slice y.B y.m y.d] 24)
          have hb8 := hb'.alloc (.cells #[.bool y.s, .slice y.A y.n y.c, .slice y.B y.m y.d] 24)
          have k8 := k_r.alloc (.cells #[.bool y.s, .slice y.A y.n y.c, .slice y.B y.m y.d] 24)
          have hzx : w5.heap.size ≤ (w5.alloc (.cells #[.bool y.s, .slice y.A y.n y.c, .slice y.B y.m y.d] 24)).heap.size := by simp
          have hk : ∀ b, w2.drew.heap.size ≤ b → b < w5.heap.size → (w5.alloc (.cells #[.bool y.s, .slice y.A y.n y.c, .slice y.B y.m y.d] 24)).heap[b]? = w5.heap[b]? := fun b h1 h2 => ((Below.refl w5.heap.size w5).alloc (Nat.le_refl _) (.cells #[.bool y.s, .slice y.A y.n y.c, .slice y.B y.m y.d] 24)).block b h2
          have ht8 : Tw (w5.alloc (.cells #[.bool y.s, .slice y.A y.n y.c, .slice y.B y.m y.d] 24)) (fun b => w.heap.size + 1 ≤ b) (.num 0) ⟨1, y, ⟨#[]⟩, none, 0, 0⟩ :=
            ⟨rfl, (ht.lower (Nat.zero_le _)).keepB hy hzx hk, fun h1 A hA => Nat.le_trans (by omega) (hy.1 h1 A hA), fun h1 A hA => Nat.le_trans (by omega) (hy.2 h1 A hA)⟩
          obtain ⟨s0, s1, s2, s3, s4, s5⟩ := k8.facts
          obtain ⟨r0, r1, r2, r3, r4, r5⟩ := k8.thaw
          obtain ⟨g0, g1, g2, g3, g4, g5⟩ := hr8.facts
          obtain ⟨f1, f2, f3, f4, f5⟩ := hr8.thaw
          clear h0 h1 h2 h3 h4 h5
          go_wp2
          · rename_i hlg
            subst hlg
            refine ret6 (fn := Tryz.f99) Tryz.results99 rfl rfl (k8.setOther (by omega) 5 (.bool true)) ?_
            rw [hres.out]
            exact ⟨⟨1, y, ⟨#[]⟩, none, 0, 0⟩, rfl, ((ht8.but ((But.refl g _).set 5 (.bool true)) (fun b h1 => by omega)).but (put6_but _ _ _ _ _ _) (fun b h1 => by omega)).wide (fun b h1 => by omega), (hr8.set5 true).put (by omega) (by omega) _ _ _ _ _ _, (hb8.set 5 (.bool true)).put (Nat.le_refl _) _ _ _ _ _ _⟩
          · rename_i hlg
            have hlf : lg = false := by cases lg <;> simp_all
            subst hlf
            refine ret6 (fn := Tryz.f99) Tryz.results99 rfl rfl (k8.setOther (by omega) 5 (.bool true)) ?_
            rw [hres.out]
            exact ⟨⟨1, y, ⟨#[]⟩, none, 0, 0⟩, rfl, ((ht8.but ((But.refl g _).set 5 (.bool true)) (fun b h1 => by omega)).but (put6_but _ _ _ _ _ _) (fun b h1 => by omega)).wide (fun b h1 => by omega), (hr8.set5 true).put (by omega) (by omega) _ _ _ _ _ _, (hb8.set 5 (.bool true)).put (Nat.le_refl _) _ _ _ _ _ _⟩
        · have hr8 := hr.put3 (c := w2.heap.size) (by omega) (by omega) (.bool y.s) (.slice y.A y.n y.c) (.slice y.B y.m y.d)
          have hb8 := hb'.put3 (b := w2.heap.size) (by omega) (.bool y.s) (.slice y.A y.n y.c) (.slice y.B y.m y.d)
          have k8 := k_r.but (put3_but (b := w2.heap.size) (.bool y.s) (.slice y.A y.n y.c) (.slice y.B y.m y.d)) (by omega)
          have hzx : w5.heap.size ≤ (put3 w5 w2.heap.size (.bool y.s) (.slice y.A y.n y.c) (.slice y.B y.m y.d)).heap.size := by simp
          have hk : ∀ b, (w2.alloc (.cells #[.bool false, .slice none 0 0, .slice none 0 0] 24)).drew.heap.size ≤ b → b < w5.heap.size → (put3 w5 w2.heap.size (.bool y.s) (.slice y.A y.n y.c) (.slice y.B y.m y.d)).heap[b]? = w5.heap[b]? := fun b h1 h2 => (put3_but (b := w2.heap.size) (.bool y.s) (.slice y.A y.n y.c) (.slice y.B y.m y.d)).block b h2 (by omega)
          have ht8 : Tw (put3 w5 w2.heap.size (.bool y.s) (.slice y.A y.n y.c) (.slice y.B y.m y.d)) (fun b => w.heap.size + 1 ≤ b) (.num 0) ⟨1, y, ⟨#[]⟩, none, 0, 0⟩ :=
            ⟨rfl, (ht.lower (Nat.zero_le _)).keepB hy hzx hk, fun h1 A hA => Nat.le_trans (by omega) (hy.1 h1 A hA), fun h1 A hA => Nat.le_trans (by omega) (hy.2 h1 A hA)⟩
          obtain ⟨s0, s1, s2, s3, s4, s5⟩ := k8.facts
          obtain ⟨r0, r1, r2, r3, r4, r5⟩ := k8.thaw
          obtain ⟨g0, g1, g2, g3, g4, g5⟩ := hr8.facts
          obtain ⟨f1, f2, f3, f4, f5⟩ := hr8.thaw
          clear h0 h1 h2 h3 h4 h5
          go_wp2
          · rename_i hlg
            subst hlg
            refine ret6 (fn := Tryz.f99) Tryz.results99 rfl rfl (k8.setOther (by omega) 5 (.bool true)) ?_
            rw [hres.out]
            exact ⟨⟨1, y, ⟨#[]⟩, none, 0, 0⟩, rfl, ((ht8.but ((But.refl g _).set 5 (.bool true)) (fun b h1 => by omega)).but (put6_but _ _ _ _ _ _) (fun b h1 => by omega)).wide (fun b h1 => by omega), (hr8.set5 true).put (by omega) (by omega) _ _ _ _ _ _, (hb8.set 5 (.bool true)).put (Nat.le_refl _) _ _ _ _ _ _⟩
          · rename_i hlg
            have hlf : lg = false := by cases lg <;> simp_all
            subst hlf
            refine ret6 (fn := Tryz.f99) Tryz.results99 rfl rfl (k8.setOther (by omega) 5 (.bool true)) ?_
            rw [hres.out]
            exact ⟨⟨1, y, ⟨#[]⟩, none, 0, 0⟩, rfl, ((ht8.but ((But.refl g _).set 5 (.bool true)) (fun b h1 => by omega)).but (put6_but _ _ _ _ _ _) (fun b h1 => by omega)).wide (fun b h1 => by omega), (hr8.set5 true).put (by omega) (by omega) _ _ _ _ _ _, (hb8.set 5 (.bool true)).put (Nat.le_refl _) _ _ _ _ _ _⟩
  · clear HX2
    rw [if_neg h46] at HR
    have HX := HX1
    clear HX1
    have HQ : (a < S.size ∧ Hid (bt S a ≠ 46)) ∨ ¬ a < S.size := by
      by_cases hl : a < S.size
      · exact .inl ⟨hl, h46⟩
      · exact .inr hl
    clear h46
    rcases HQ with ⟨hl, h46⟩ | hl
    · have j3 : (a : Int) < (S.size : Int) := by omega
      have n6 : S[a].toNat ≠ 46 := by rw [← bt_lt hl]; exact u8_ne (k := 46) (by omega) h46.out
      have j6 : ¬ ((S[a].toNat : Int) = 46) := by omega
      have j7 : ((S[a].toNat : Int) == 46) = false := beq_eq_false_iff_ne.2 j6
      clear n6 h46
      go_wp2_with fail
      go_quiet (fail)
      have hsz2 : w1.heap.size ≤ (w1.drewN nq).heap.size := by simp
      replace hr := hr.drewN nq
      replace hb' := hb'.drewN nq
      replace k_r := k_r.below (below_drewN' _ w1 nq)
      clear h0 h1 h2 h3 h4 h5 f1 f2 f3 f4 f5
      generalize w1.drewN nq = w2 at *
      obtain ⟨h0, h1, h2, h3, h4, h5⟩ := hr.facts
      generalize hza : a = z at *
      clear hza j6 j7
      by_cases hsh : z - p ≤ 400
      · have j1 : (p : Int) ≤ (z : Int) := by omega
        have j0 : (0 : Int) ≤ (p : Int) := by omega
        have j2 : (z : Int) ≤ (S.size : Int) := by omega
        
        have hres : Hid (RES = .ok (mk n (.num (tv (S.extract p z)))) (.num (tv (S.extract p z))) z (n + 1) false) := by show _ = _; rw [HR.out]; unfold numE; rw [if_pos hsh]
        have HT := Lib.hid (tv_of (HX hsh))
        
        clear HX hsh HR
        have hnb : g < w2.heap.size := hr.lt
        have hne : g ≠ w2.heap.size := by omega
        have hrb := k_r.lt
        go_wp2_with fail
        go_region_held3 (fun w' => w'.cell? ⟨g, 0, none⟩ = some (.string S) ∧ w'.cell? ⟨g, 1, none⟩ = some (.int .i64 z)) (first | go_keep | exact ⟨(put3_cell hne _ _ _ _).trans h0, (put3_cell hne _ _ _ _).trans h1⟩)
          (first
          | (go_at_call 135
             refine (rfParse_v (S.extract p z) _ (w2.alloc (.cells #[.bool false, .slice none 0 0, .slice none 0 0] 24)).drew HT.out).mono ?_
             rintro e w5 ⟨y, rfl, ht, hb5⟩
             have hy := RP.of ht
             replace hr := ((hr.alloc (.cells #[.bool false, .slice none 0 0, .slice none 0 0] 24)).drew).next hb5
             replace hb' := ((hb'.alloc (.cells #[.bool false, .slice none 0 0, .slice none 0 0] 24)).drew).trans (.of hb5)
             replace k_r := ((k_r.alloc (.cells #[.bool false, .slice none 0 0, .slice none 0 0] 24)).drew).below hb5
             have k_n := (C3.new w2 (.bool false) (.slice none 0 0) (.slice none 0 0)).drew.below hb5
             obtain ⟨n0, n1, n2, n3, n4, n5⟩ := k_n.facts
             have hzd : (w2.alloc (.cells #[.bool false, .slice none 0 0, .slice none 0 0] 24)).drew.heap.size = w2.heap.size + 1 := by simp
             have hz5 := hb5.size
             clear h0 h1 h2 h3 h4 h5
             obtain ⟨h0, h1, h2, h3, h4, h5⟩ := hr.facts)
          | (go_at_call 135
             refine (rfParse_v (S.extract p z) _ w2.drew HT.out).mono ?_
             rintro e w5 ⟨y, rfl, ht, hb5⟩
             have hy := RP.of ht
             replace hr := (hr.drew).next hb5
             replace hb' := (hb'.drew).trans (.of hb5)
             replace k_r := (k_r.drew).below hb5
             have hzd : w2.drew.heap.size = w2.heap.size := rfl
             have hz5 := hb5.size
             clear h0 h1 h2 h3 h4 h5
             obtain ⟨h0, h1, h2, h3, h4, h5⟩ := hr.facts))
        · have hr8 := hr.alloc (.cells #[.bool y.s, .slice y.A y.n y.c, .slice y.B y.m y.d] 24)
          have hb8 := hb'.alloc (.cells #[.bool y.s, .slice y.A y.n y.c, .slice y.B y.m y.d] 24)
          have k8 := k_r.alloc (.cells #[.bool y.s, .slice y.A y.n y.c, .slice y.B y.m y.d] 24)
          have hzx : w5.heap.size ≤ (w5.alloc (.cells #[.bool y.s, .slice y.A y.n y.c, .slice y.B y.m y.d] 24)).heap.size := by simp
          have hk : ∀ b, w2.drew.heap.size ≤ b → b < w5.heap.size → (w5.alloc (.cells #[.bool y.s, .slice y.A y.n y.c, .slice y.B y.m y.d] 24)).heap[b]? = w5.heap[b]? := fun b h1 h2 => ((Below.refl w5.heap.size w5).alloc (Nat.le_refl _) (.cells #[.bool y.s, .slice y.A y.n y.c, .slice y.B y.m y.d] 24)).block b h2
          have ht8 : Tw (w5.alloc (.cells #[.bool y.s, .slice y.A y.n y.c, .slice y.B y.m y.d] 24)) (fun b => w.heap.size + 1 ≤ b) (.num (tv (S.extract p z))) ⟨1, y, ⟨#[]⟩, none, 0, 0⟩ :=
            ⟨rfl, (ht.lower (Nat.zero_le _)).keepB hy hzx hk, fun h1 A hA => Nat.le_trans (by omega) (hy.1 h1 A hA), fun h1 A hA => Nat.le_trans (by omega) (hy.2 h1 A hA)⟩
          obtain ⟨s0, s1, s2, s3, s4, s5⟩ := k8.facts
          obtain ⟨r0, r1, r2, r3, r4, r5⟩ := k8.thaw
          obtain ⟨g0, g1, g2, g3, g4, g5⟩ := hr8.facts
          obtain ⟨f1, f2, f3, f4, f5⟩ := hr8.thaw
          clear h0 h1 h2 h3 h4 h5
          go_wp2
          · rename_i hlg
            subst hlg
            refine ret6 (fn := Tryz.f99) Tryz.results99 rfl rfl (k8.setOther (by omega) 5 (.bool true)) ?_
            rw [hres.out]
            exact ⟨⟨1, y, ⟨#[]⟩, none, 0, 0⟩, rfl, ((ht8.but ((But.refl g _).set 5 (.bool true)) (fun b h1 => by omega)).but (put6_but _ _ _ _ _ _) (fun b h1 => by omega)).wide (fun b h1 => by omega), (hr8.set5 true).put (by omega) (by omega) _ _ _ _ _ _, (hb8.set 5 (.bool true)).put (Nat.le_refl _) _ _ _ _ _ _⟩
          · rename_i hlg
            have hlf : lg = false := by cases lg <;> simp_all
            subst hlf
            refine ret6 (fn := Tryz.f99) Tryz.results99 rfl rfl (k8.setOther (by omega) 5 (.bool false)) ?_
            rw [hres.out]
            exact ⟨⟨1, y, ⟨#[]⟩, none, 0, 0⟩, rfl, ((ht8.but ((But.refl g _).set 5 (.bool false)) (fun b h1 => by omega)).but (put6_but _ _ _ _ _ _) (fun b h1 => by omega)).wide (fun b h1 => by omega), (hr8.set5 false).put (by omega) (by omega) _ _ _ _ _ _, (hb8.set 5 (.bool false)).put (Nat.le_refl _) _ _ _ _ _ _⟩
        · have hr8 := hr.put3 (c := w2.heap.size) (by omega) (by omega) (.bool y.s) (.slice y.A y.n y.c) (.slice y.B y.m y.d)
          have hb8 := hb'.put3 (b := w2.heap.size) (by omega) (.bool y.s) (.slice y.A y.n y.c) (.slice y.B y.m y.d)
          have k8 := k_r.but (put3_but (b := w2.heap.size) (.bool y.s) (.slice y.A y.n y.c) (.slice y.B y.m y.d)) (by omega)
          have hzx : w5.heap.size ≤ (put3 w5 w2.heap.size (.bool y.s) (.slice y.A y.n y.c) (.slice y.B y.m y.d)).heap.size := by simp
          have hk : ∀ b, (w2.alloc (.cells #[.bool false, .slice none 0 0, .slice none 0 0] 24)).drew.heap.size ≤ b → b < w5.heap.size → (put3 w5 w2.heap.size (.bool y.s) (.slice y.A y.n y.c) (.slice y.B y.m y.d)).heap[b]? = w5.heap[b]? := fun b h1 h2 => (put3_but (b := w2.heap.size) (.bool y.s) (.slice y.A y.n y.c) (.slice y.B y.m y.d)).block b h2 (by omega)
          have ht8 : Tw (put3 w5 w2.heap.size (.bool y.s) (.slice y.A y.n y.c) (.slice y.B y.m y.d)) (fun b => w.heap.size + 1 ≤ b) (.num (tv (S.extract p z))) ⟨1, y, ⟨#[]⟩, none, 0, 0⟩ :=
            ⟨rfl, (ht.lower (Nat.zero_le _)).keepB hy hzx hk, fun h1 A hA => Nat.le_trans (by omega) (hy.1 h1 A hA), fun h1 A hA => Nat.le_trans (by omega) (hy.2 h1 A hA)⟩
          obtain ⟨s0, s1, s2, s3, s4, s5⟩ := k8.facts
          obtain ⟨r0, r1, r2, r3, r4, r5⟩ := k8.thaw
          obtain ⟨g0, g1, g2, g3, g4, g5⟩ := hr8.facts
          obtain ⟨f1, f2, f3, f4, f5⟩ := hr8.thaw
          clear h0 h1 h2 h3 h4 h5
          go_wp2
          · rename_i hlg
            subst hlg
            refine ret6 (fn := Tryz.f99) Tryz.results99 rfl rfl (k8.setOther (by omega) 5 (.bool true)) ?_
            rw [hres.out]
            exact ⟨⟨1, y, ⟨#[]⟩, none, 0, 0⟩, rfl, ((ht8.but ((But.refl g _).set 5 (.bool true)) (fun b h1 => by omega)).but (put6_but _ _ _ _ _ _) (fun b h1 => by omega)).wide (fun b h1 => by omega), (hr8.set5 true).put (by omega) (by omega) _ _ _ _ _ _, (hb8.set 5 (.bool true)).put (Nat.le_refl _) _ _ _ _ _ _⟩
          · rename_i hlg
            have hlf : lg = false := by cases lg <;> simp_all
            subst hlf
            refine ret6 (fn := Tryz.f99) Tryz.results99 rfl rfl (k8.setOther (by omega) 5 (.bool false)) ?_
            rw [hres.out]
            exact ⟨⟨1, y, ⟨#[]⟩, none, 0, 0⟩, rfl, ((ht8.but ((But.refl g _).set 5 (.bool false)) (fun b h1 => by omega)).but (put6_but _ _ _ _ _ _) (fun b h1 => by omega)).wide (fun b h1 => by omega), (hr8.set5 false).put (by omega) (by omega) _ _ _ _ _ _, (hb8.set 5 (.bool false)).put (Nat.le_refl _) _ _ _ _ _ _⟩
      · have j1 : (p : Int) ≤ (z : Int) := by omega
        have j0 : (0 : Int) ≤ (p : Int) := by omega
        have j2 : (z : Int) ≤ (S.size : Int) := by omega
        
        have hres : Hid (RES = .ok .bad (.num 0) z n true) := by show _ = _; rw [HR.out]; unfold numE; rw [if_neg hsh]
        have hsl : 400 < (S.extract p z).size ∧ (S.extract p z).size ≤ 1000000 := by rw [ByteArray.size_extract]; omega
        
        clear HX hsh HR
        have hnb : g < w2.heap.size := hr.lt
        have hne : g ≠ w2.heap.size := by omega
        have hrb := k_r.lt
        go_wp2_with fail
        go_region_held3 (fun w' => w'.cell? ⟨g, 0, none⟩ = some (.string S) ∧ w'.cell? ⟨g, 1, none⟩ = some (.int .i64 z)) (first | go_keep | exact ⟨(put3_cell hne _ _ _ _).trans h0, (put3_cell hne _ _ _ _).trans h1⟩)
          (first
          | (go_at_call 135
             refine (rParse_long (S.extract p z) (w2.alloc (.cells #[.bool false, .slice none 0 0, .slice none 0 0] 24)).drew hsl.1 hsl.2).mono ?_
             rintro e w5 ⟨y, rfl, ht, hb5⟩
             have hy := RP.of ht
             replace hr := ((hr.alloc (.cells #[.bool false, .slice none 0 0, .slice none 0 0] 24)).drew).next hb5
             replace hb' := ((hb'.alloc (.cells #[.bool false, .slice none 0 0, .slice none 0 0] 24)).drew).trans (.of hb5)
             replace k_r := ((k_r.alloc (.cells #[.bool false, .slice none 0 0, .slice none 0 0] 24)).drew).below hb5
             have k_n := (C3.new w2 (.bool false) (.slice none 0 0) (.slice none 0 0)).drew.below hb5
             obtain ⟨n0, n1, n2, n3, n4, n5⟩ := k_n.facts
             have hzd : (w2.alloc (.cells #[.bool false, .slice none 0 0, .slice none 0 0] 24)).drew.heap.size = w2.heap.size + 1 := by simp
             have hz5 := hb5.size
             clear h0 h1 h2 h3 h4 h5
             obtain ⟨h0, h1, h2, h3, h4, h5⟩ := hr.facts)
          | (go_at_call 135
             refine (rParse_long (S.extract p z) w2.drew hsl.1 hsl.2).mono ?_
             rintro e w5 ⟨y, rfl, ht, hb5⟩
             have hy := RP.of ht
             replace hr := (hr.drew).next hb5
             replace hb' := (hb'.drew).trans (.of hb5)
             replace k_r := (k_r.drew).below hb5
             have hzd : w2.drew.heap.size = w2.heap.size := rfl
             have hz5 := hb5.size
             clear h0 h1 h2 h3 h4 h5
             obtain ⟨h0, h1, h2, h3, h4, h5⟩ := hr.facts))
        · have hr8 := hr.alloc (.cells #[.bool y.s, .slice y.A y.n y.c, .slice y.B y.m y.d] 24)
          have hb8 := hb'.alloc (.cells #[.bool y.s, .slice y.A y.n y.c, .slice y.B y.m y.d] 24)
          have k8 := k_r.alloc (.cells #[.bool y.s, .slice y.A y.n y.c, .slice y.B y.m y.d] 24)
          have hzx : w5.heap.size ≤ (w5.alloc (.cells #[.bool y.s, .slice y.A y.n y.c, .slice y.B y.m y.d] 24)).heap.size := by simp
          have hk : ∀ b, w2.drew.heap.size ≤ b → b < w5.heap.size → (w5.alloc (.cells #[.bool y.s, .slice y.A y.n y.c, .slice y.B y.m y.d] 24)).heap[b]? = w5.heap[b]? := fun b h1 h2 => ((Below.refl w5.heap.size w5).alloc (Nat.le_refl _) (.cells #[.bool y.s, .slice y.A y.n y.c, .slice y.B y.m y.d] 24)).block b h2
          have ht8 : Tw (w5.alloc (.cells #[.bool y.s, .slice y.A y.n y.c, .slice y.B y.m y.d] 24)) (fun b => w.heap.size + 1 ≤ b) (.num 0) ⟨1, y, ⟨#[]⟩, none, 0, 0⟩ :=
            ⟨rfl, (ht.lower (Nat.zero_le _)).keepB hy hzx hk, fun h1 A hA => Nat.le_trans (by omega) (hy.1 h1 A hA), fun h1 A hA => Nat.le_trans (by omega) (hy.2 h1 A hA)⟩
          obtain ⟨s0, s1, s2, s3, s4, s5⟩ := k8.facts
          obtain ⟨r0, r1, r2, r3, r4, r5⟩ := k8.thaw
          obtain ⟨g0, g1, g2, g3, g4, g5⟩ := hr8.facts
          obtain ⟨f1, f2, f3, f4, f5⟩ := hr8.thaw
          clear h0 h1 h2 h3 h4 h5
          go_wp2
          · rename_i hlg
            subst hlg
            refine ret6 (fn := Tryz.f99) Tryz.results99 rfl rfl (k8.setOther (by omega) 5 (.bool true)) ?_
            rw [hres.out]
            exact ⟨⟨1, y, ⟨#[]⟩, none, 0, 0⟩, rfl, ((ht8.but ((But.refl g _).set 5 (.bool true)) (fun b h1 => by omega)).but (put6_but _ _ _ _ _ _) (fun b h1 => by omega)).wide (fun b h1 => by omega), (hr8.set5 true).put (by omega) (by omega) _ _ _ _ _ _, (hb8.set 5 (.bool true)).put (Nat.le_refl _) _ _ _ _ _ _⟩
          · rename_i hlg
            have hlf : lg = false := by cases lg <;> simp_all
            subst hlf
            refine ret6 (fn := Tryz.f99) Tryz.results99 rfl rfl (k8.setOther (by omega) 5 (.bool true)) ?_
            rw [hres.out]
            exact ⟨⟨1, y, ⟨#[]⟩, none, 0, 0⟩, rfl, ((ht8.but ((But.refl g _).set 5 (.bool true)) (fun b h1 => by omega)).but (put6_but _ _ _ _ _ _) (fun b h1 => by omega)).wide (fun b h1 => by omega), (hr8.set5 true).put (by omega) (by omega) _ _ _ _ _ _, (hb8.set 5 (.bool true)).put (Nat.le_refl _) _ _ _ _ _ _⟩
        · have hr8 := hr.put3 (c := w2.heap.size) (by omega) (by omega) (.bool y.s) (.slice y.A y.n y.c) (.slice y.B y.m y.d)
          have hb8 := hb'.put3 (b := w2.heap.size) (by omega) (.bool y.s) (.slice y.A y.n y.c) (.slice y.B y.m y.d)
          have k8 := k_r.but (put3_but (b := w2.heap.size) (.bool y.s) (.slice y.A y.n y.c) (.slice y.B y.m y.d)) (by omega)
          have hzx : w5.heap.size ≤ (put3 w5 w2.heap.size (.bool y.s) (.slice y.A y.n y.c) (.slice y.B y.m y.d)).heap.size := by simp
          have hk : ∀ b, (w2.alloc (.cells #[.bool false, .slice none 0 0, .slice none 0 0] 24)).drew.heap.size ≤ b → b < w5.heap.size → (put3 w5 w2.heap.size (.bool y.s) (.slice y.A y.n y.c) (.slice y.B y.m y.d)).heap[b]? = w5.heap[b]? := fun b h1 h2 => (put3_but (b := w2.heap.size) (.bool y.s) (.slice y.A y.n y.c) (.slice y.B y.m y.d)).block b h2 (by omega)
          have ht8 : Tw (put3 w5 w2.heap.size (.bool y.s) (.slice y.A y.n y.c) (.slice y.B y.m y.d)) (fun b => w.heap.size + 1 ≤ b) (.num 0) ⟨1, y, ⟨#[]⟩, none, 0, 0⟩ :=
            ⟨rfl, (ht.lower (Nat.zero_le _)).keepB hy hzx hk, fun h1 A hA => Nat.le_trans (by omega) (hy.1 h1 A hA), fun h1 A hA => Nat.le_trans (by omega) (hy.2 h1 A hA)⟩
          obtain ⟨s0, s1, s2, s3, s4, s5⟩ := k8.facts
          obtain ⟨r0, r1, r2, r3, r4, r5⟩ := k8.thaw
          obtain ⟨g0, g1, g2, g3, g4, g5⟩ := hr8.facts
          obtain ⟨f1, f2, f3, f4, f5⟩ := hr8.thaw
          clear h0 h1 h2 h3 h4 h5
          go_wp2
          · rename_i hlg
            subst hlg
            refine ret6 (fn := Tryz.f99) Tryz.results99 rfl rfl (k8.setOther (by omega) 5 (.bool true)) ?_
            rw [hres.out]
            exact ⟨⟨1, y, ⟨#[]⟩, none, 0, 0⟩, rfl, ((ht8.but ((But.refl g _).set 5 (.bool true)) (fun b h1 => by omega)).but (put6_but _ _ _ _ _ _) (fun b h1 => by omega)).wide (fun b h1 => by omega), (hr8.set5 true).put (by omega) (by omega) _ _ _ _ _ _, (hb8.set 5 (.bool true)).put (Nat.le_refl _) _ _ _ _ _ _⟩
          · rename_i hlg
            have hlf : lg = false := by cases lg <;> simp_all
            subst hlf
            refine ret6 (fn := Tryz.f99) Tryz.results99 rfl rfl (k8.setOther (by omega) 5 (.bool true)) ?_
            rw [hres.out]
            exact ⟨⟨1, y, ⟨#[]⟩, none, 0, 0⟩, rfl, ((ht8.but ((But.refl g _).set 5 (.bool true)) (fun b h1 => by omega)).but (put6_but _ _ _ _ _ _) (fun b h1 => by omega)).wide (fun b h1 => by omega), (hr8.set5 true).put (by omega) (by omega) _ _ _ _ _ _, (hb8.set 5 (.bool true)).put (Nat.le_refl _) _ _ _ _ _ _⟩
    · have j3 : ¬ ((a : Int) < (S.size : Int)) := by omega
      go_wp2_with fail
      go_quiet (fail)
      have hsz2 : w1.heap.size ≤ (w1.drewN nq).heap.size := by simp
      replace hr := hr.drewN nq
      replace hb' := hb'.drewN nq
      replace k_r := k_r.below (below_drewN' _ w1 nq)
      clear h0 h1 h2 h3 h4 h5 f1 f2 f3 f4 f5
      generalize w1.drewN nq = w2 at *
      obtain ⟨h0, h1, h2, h3, h4, h5⟩ := hr.facts
      generalize hza : a = z at *
      clear hza
      by_cases hsh : z - p ≤ 400
      · have j1 : (p : Int) ≤ (z : Int) := by omega
        have j0 : (0 : Int) ≤ (p : Int) := by omega
        have j2 : (z : Int) ≤ (S.size : Int) := by omega
        
        have hres : Hid (RES = .ok (mk n (.num (tv (S.extract p z)))) (.num (tv (S.extract p z))) z (n + 1) false) := by show _ = _; rw [HR.out]; unfold numE; rw [if_pos hsh]
        have HT := Lib.hid (tv_of (HX hsh))
        
        clear HX hsh HR
        have hnb : g < w2.heap.size := hr.lt
        have hne : g ≠ w2.heap.size := by omega
        have hrb := k_r.lt
        go_wp2_with fail
        go_region_held3 (fun w' => w'.cell? ⟨g, 0, none⟩ = some (.string S) ∧ w'.cell? ⟨g, 1, none⟩ = some (.int .i64 z)) (first | go_keep | exact ⟨(put3_cell hne _ _ _ _).trans h0, (put3_cell hne _ _ _ _).trans h1⟩)
          (first
          | (go_at_call 135
             refine (rfParse_v (S.extract p z) _ (w2.alloc (.cells #[.bool false, .slice none 0 0, .slice none 0 0] 24)).drew HT.out).mono ?_
             rintro e w5 ⟨y, rfl, ht, hb5⟩
             have hy := RP.of ht
             replace hr := ((hr.alloc (.cells #[.bool false, .slice none 0 0, .slice none 0 0] 24)).drew).next hb5
             replace hb' := ((hb'.alloc (.cells #[.bool false, .slice none 0 0, .slice none 0 0] 24)).drew).trans (.of hb5)
             replace k_r := ((k_r.alloc (.cells #[.bool false, .slice none 0 0, .slice none 0 0] 24)).drew).below hb5
             have k_n := (C3.new w2 (.bool false) (.slice none 0 0) (.slice none 0 0)).drew.below hb5
             obtain ⟨n0, n1, n2, n3, n4, n5⟩ := k_n.facts
             have hzd : (w2.alloc (.cells #[.bool false, .slice none 0 0, .slice none 0 0] 24)).drew.heap.size = w2.heap.size + 1 := by simp
             have hz5 := hb5.size
             clear h0 h1 h2 h3 h4 h5
             obtain ⟨h0, h1, h2, h3, h4, h5⟩ := hr.facts)
          | (go_at_call 135
             refine (rfParse_v (S.extract p z) _ w2.drew HT.out).mono ?_
             rintro e w5 ⟨y, rfl, ht, hb5⟩
             have hy := RP.of ht
             replace hr := (hr.drew).next hb5
             replace hb' := (hb'.drew).trans (.of hb5)
             replace k_r := (k_r.drew).below hb5
             have hzd : w2.drew.heap.size = w2.heap.size := rfl
             have hz5 := hb5.size
             clear h0 h1 h2 h3 h4 h5
             obtain ⟨h0, h1, h2, h3, h4, h5⟩ := hr.facts))
        · have hr8 := hr.alloc (.cells #[.bool y.s, .slice y.A y.n y.c, .slice y.B y.m y.d] 24)
          have hb8 := hb'.alloc (.cells #[.bool y.s, .slice y.A y.n y.c, .slice y.B y.m y.d] 24)
          have k8 := k_r.alloc (.cells #[.bool y.s, .slice y.A y.n y.c, .slice y.B y.m y.d] 24)
          have hzx : w5.heap.size ≤ (w5.alloc (.cells #[.bool y.s, .slice y.A y.n y.c, .slice y.B y.m y.d] 24)).heap.size := by simp
          have hk : ∀ b, w2.drew.heap.size ≤ b → b < w5.heap.size → (w5.alloc (.cells #[.bool y.s, .slice y.A y.n y.c, .slice y.B y.m y.d] 24)).heap[b]? = w5.heap[b]? := fun b h1 h2 => ((Below.refl w5.heap.size w5).alloc (Nat.le_refl _) (.cells #[.bool y.s, .slice y.A y.n y.c, .slice y.B y.m y.d] 24)).block b h2
          have ht8 : Tw (w5.alloc (.cells #[.bool y.s, .slice y.A y.n y.c, .slice y.B y.m y.d] 24)) (fun b => w.heap.size + 1 ≤ b) (.num (tv (S.extract p z))) ⟨1, y, ⟨#[]⟩, none, 0, 0⟩ :=
            ⟨rfl, (ht.lower (Nat.zero_le _)).keepB hy hzx hk, fun h1 A hA => Nat.le_trans (by omega) (hy.1 h1 A hA), fun h1 A hA => Nat.le_trans (by omega) (hy.2 h1 A hA)⟩
          obtain ⟨s0, s1, s2, s3, s4, s5⟩ := k8.facts
          obtain ⟨r0, r1, r2, r3, r4, r5⟩ := k8.thaw
          obtain ⟨g0, g1, g2, g3, g4, g5⟩ := hr8.facts
          obtain ⟨f1, f2, f3, f4, f5⟩ := hr8.thaw
          clear h0 h1 h2 h3 h4 h5
          go_wp2
          · rename_i hlg
            subst hlg
            refine ret6 (fn := Tryz.f99) Tryz.results99 rfl rfl (k8.setOther (by omega) 5 (.bool true)) ?_
            rw [hres.out]
            exact ⟨⟨1, y, ⟨#[]⟩, none, 0, 0⟩, rfl, ((ht8.but ((But.refl g _).set 5 (.bool true)) (fun b h1 => by omega)).but (put6_but _ _ _ _ _ _) (fun b h1 => by omega)).wide (fun b h1 => by omega), (hr8.set5 true).put (by omega) (by omega) _ _ _ _ _ _, (hb8.set 5 (.bool true)).put (Nat.le_refl _) _ _ _ _ _ _⟩
          · rename_i hlg
            have hlf : lg = false := by cases lg <;> simp_all
            subst hlf
            refine ret6 (fn := Tryz.f99) Tryz.results99 rfl rfl (k8.setOther (by omega) 5 (.bool false)) ?_
            rw [hres.out]
            exact ⟨⟨1, y, ⟨#[]⟩, none, 0, 0⟩, rfl, ((ht8.but ((But.refl g _).set 5 (.bool false)) (fun b h1 => by omega)).but (put6_but _ _ _ _ _ _) (fun b h1 => by omega)).wide (fun b h1 => by omega), (hr8.set5 false).put (by omega) (by omega) _ _ _ _ _ _, (hb8.set 5 (.bool false)).put (Nat.le_refl _) _ _ _ _ _ _⟩
        · have hr8 := hr.put3 (c := w2.heap.size) (by omega) (by omega) (.bool y.s) (.slice y.A y.n y.c) (.slice y.B y.m y.d)
          have hb8 := hb'.put3 (b := w2.heap.size) (by omega) (.bool y.s) (.slice y.A y.n y.c) (.slice y.B y.m y.d)
          have k8 := k_r.but (put3_but (b := w2.heap.size) (.bool y.s) (.slice y.A y.n y.c) (.slice y.B y.m y.d)) (by omega)
          have hzx : w5.heap.size ≤ (put3 w5 w2.heap.size (.bool y.s) (.slice y.A y.n y.c) (.slice y.B y.m y.d)).heap.size := by simp
          have hk : ∀ b, (w2.alloc (.cells #[.bool false, .slice none 0 0, .slice none 0 0] 24)).drew.heap.size ≤ b → b < w5.heap.size → (put3 w5 w2.heap.size (.bool y.s) (.slice y.A y.n y.c) (.slice y.B y.m y.d)).heap[b]? = w5.heap[b]? := fun b h1 h2 => (put3_but (b := w2.heap.size) (.bool y.s) (.slice y.A y.n y.c) (.slice y.B y.m y.d)).block b h2 (by omega)
          have ht8 : Tw (put3 w5 w2.heap.size (.bool y.s) (.slice y.A y.n y.c) (.slice y.B y.m y.d)) (fun b => w.heap.size + 1 ≤ b) (.num (tv (S.extract p z))) ⟨1, y, ⟨#[]⟩, none, 0, 0⟩ :=
            ⟨rfl, (ht.lower (Nat.zero_le _)).keepB hy hzx hk, fun h1 A hA => Nat.le_trans (by omega) (hy.1 h1 A hA), fun h1 A hA => Nat.le_trans (by omega) (hy.2 h1 A hA)⟩
          obtain ⟨s0, s1, s2, s3, s4, s5⟩ := k8.facts
          obtain ⟨r0, r1, r2, r3, r4, r5⟩ := k8.thaw
          obtain ⟨g0, g1, g2, g3, g4, g5⟩ := hr8.facts
          obtain ⟨f1, f2, f3, f4, f5⟩ := hr8.thaw
          clear h0 h1 h2 h3 h4 h5
          go_wp2
          · rename_i hlg
            subst hlg
            refine ret6 (fn := Tryz.f99) Tryz.results99 rfl rfl (k8.setOther (by omega) 5 (.bool true)) ?_
            rw [hres.out]
            exact ⟨⟨1, y, ⟨#[]⟩, none, 0, 0⟩, rfl, ((ht8.but ((But.refl g _).set 5 (.bool true)) (fun b h1 => by omega)).but (put6_but _ _ _ _ _ _) (fun b h1 => by omega)).wide (fun b h1 => by omega), (hr8.set5 true).put (by omega) (by omega) _ _ _ _ _ _, (hb8.set 5 (.bool true)).put (Nat.le_refl _) _ _ _ _ _ _⟩
          · rename_i hlg
            have hlf : lg = false := by cases lg <;> simp_all
            subst hlf
            refine ret6 (fn := Tryz.f99) Tryz.results99 rfl rfl (k8.setOther (by omega) 5 (.bool false)) ?_
            rw [hres.out]
            exact ⟨⟨1, y, ⟨#[]⟩, none, 0, 0⟩, rfl, ((ht8.but ((But.refl g _).set 5 (.bool false)) (fun b h1 => by omega)).but (put6_but _ _ _ _ _ _) (fun b h1 => by omega)).wide (fun b h1 => by omega), (hr8.set5 false).put (by omega) (by omega) _ _ _ _ _ _, (hb8.set 5 (.bool false)).put (Nat.le_refl _) _ _ _ _ _ _⟩
      · have j1 : (p : Int) ≤ (z : Int) := by omega
        have j0 : (0 : Int) ≤ (p : Int) := by omega
        have j2 : (z : Int) ≤ (S.size : Int) := by omega
        
        have hres : Hid (RES = .ok .bad (.num 0) z n true) := by show _ = _; rw [HR.out]; unfold numE; rw [if_neg hsh]
        have hsl : 400 < (S.extract p z).size ∧ (S.extract p z).size ≤ 1000000 := by rw [ByteArray.size_extract]; omega
        
        clear HX hsh HR
        have hnb : g < w2.heap.size := hr.lt
        have hne : g ≠ w2.heap.size := by omega
        have hrb := k_r.lt
        go_wp2_with fail
        go_region_held3 (fun w' => w'.cell? ⟨g, 0, none⟩ = some (.string S) ∧ w'.cell? ⟨g, 1, none⟩ = some (.int .i64 z)) (first | go_keep | exact ⟨(put3_cell hne _ _ _ _).trans h0, (put3_cell hne _ _ _ _).trans h1⟩)
          (first
          | (go_at_call 135
             refine (rParse_long (S.extract p z) (w2.alloc (.cells #[.bool false, .slice none 0 0, .slice none 0 0] 24)).drew hsl.1 hsl.2).mono ?_
             rintro e w5 ⟨y, rfl, ht, hb5⟩
             have hy := RP.of ht
             replace hr := ((hr.alloc (.cells #[.bool false, .slice none 0 0, .slice none 0 0] 24)).drew).next hb5
             replace hb' := ((hb'.alloc (.cells #[.bool false, .slice none 0 0, .slice none 0 0] 24)).drew).trans (.of hb5)
             replace k_r := ((k_r.alloc (.cells #[.bool false, .slice none 0 0, .slice none 0 0] 24)).drew).below hb5
             have k_n := (C3.new w2 (.bool false) (.slice none 0 0) (.slice none 0 0)).drew.below hb5
             obtain ⟨n0, n1, n2, n3, n4, n5⟩ := k_n.facts
             have hzd : (w2.alloc (.cells #[.bool false, .slice none 0 0, .slice none 0 0] 24)).drew.heap.size = w2.heap.size + 1 := by simp
             have hz5 := hb5.size
             clear h0 h1 h2 h3 h4 h5
             obtain ⟨h0, h1, h2, h3, h4, h5⟩ := hr.facts)
          | (go_at_call 135
             refine (rParse_long (S.extract p z) w2.drew hsl.1 hsl.2).mono ?_
             rintro e w5 ⟨y, rfl, ht, hb5⟩
             have hy := RP.of ht
             replace hr := (hr.drew).next hb5
             replace hb' := (hb'.drew).trans (.of hb5)
             replace k_r := (k_r.drew).below hb5
             have hzd : w2.drew.heap.size = w2.heap.size := rfl
             have hz5 := hb5.size
             clear h0 h1 h2 h3 h4 h5
             obtain ⟨h0, h1, h2, h3, h4, h5⟩ := hr.facts))
        · have hr8 := hr.alloc (.cells #[.bool y.s, .slice y.A y.n y.c, .slice y.B y.m y.d] 24)
          have hb8 := hb'.alloc (.cells #[.bool y.s, .slice y.A y.n y.c, .slice y.B y.m y.d] 24)
          have k8 := k_r.alloc (.cells #[.bool y.s, .slice y.A y.n y.c, .slice y.B y.m y.d] 24)
          have hzx : w5.heap.size ≤ (w5.alloc (.cells #[.bool y.s, .slice y.A y.n y.c, .slice y.B y.m y.d] 24)).heap.size := by simp
          have hk : ∀ b, w2.drew.heap.size ≤ b → b < w5.heap.size → (w5.alloc (.cells #[.bool y.s, .slice y.A y.n y.c, .slice y.B y.m y.d] 24)).heap[b]? = w5.heap[b]? := fun b h1 h2 => ((Below.refl w5.heap.size w5).alloc (Nat.le_refl _) (.cells #[.bool y.s, .slice y.A y.n y.c, .slice y.B y.m y.d] 24)).block b h2
          have ht8 : Tw (w5.alloc (.cells #[.bool y.s, .slice y.A y.n y.c, .slice y.B y.m y.d] 24)) (fun b => w.heap.size + 1 ≤ b) (.num 0) ⟨1, y, ⟨#[]⟩, none, 0, 0⟩ :=
            ⟨rfl, (ht.lower (Nat.zero_le _)).keepB hy hzx hk, fun h1 A hA => Nat.le_trans (by omega) (hy.1 h1 A hA), fun h1 A hA => Nat.le_trans (by omega) (hy.2 h1 A hA)⟩
          obtain ⟨s0, s1, s2, s3, s4, s5⟩ := k8.facts
          obtain ⟨r0, r1, r2, r3, r4, r5⟩ := k8.thaw
          obtain ⟨g0, g1, g2, g3, g4, g5⟩ := hr8.facts
          obtain ⟨f1, f2, f3, f4, f5⟩ := hr8.thaw
          clear h0 h1 h2 h3 h4 h5
          go_wp2
          · rename_i hlg
            subst hlg
            refine ret6 (fn := Tryz.f99) Tryz.results99 rfl rfl (k8.setOther (by omega) 5 (.bool true)) ?_
            rw [hres.out]
            exact ⟨⟨1, y, ⟨#[]⟩, none, 0, 0⟩, rfl, ((ht8.but ((But.refl g _).set 5 (.bool true)) (fun b h1 => by omega)).but (put6_but _ _ _ _ _ _) (fun b h1 => by omega)).wide (fun b h1 => by omega), (hr8.set5 true).put (by omega) (by omega) _ _ _ _ _ _, (hb8.set 5 (.bool true)).put (Nat.le_refl _) _ _ _ _ _ _⟩
          · rename_i hlg
            have hlf : lg = false := by cases lg <;> simp_all
            subst hlf
            refine ret6 (fn := Tryz.f99) Tryz.results99 rfl rfl (k8.setOther (by omega) 5 (.bool true)) ?_
            rw [hres.out]
            exact ⟨⟨1, y, ⟨#[]⟩, none, 0, 0⟩, rfl, ((ht8.but ((But.refl g _).set 5 (.bool true)) (fun b h1 => by omega)).but (put6_but _ _ _ _ _ _) (fun b h1 => by omega)).wide (fun b h1 => by omega), (hr8.set5 true).put (by omega) (by omega) _ _ _ _ _ _, (hb8.set 5 (.bool true)).put (Nat.le_refl _) _ _ _ _ _ _⟩
        · have hr8 := hr.put3 (c := w2.heap.size) (by omega) (by omega) (.bool y.s) (.slice y.A y.n y.c) (.slice y.B y.m y.d)
          have hb8 := hb'.put3 (b := w2.heap.size) (by omega) (.bool y.s) (.slice y.A y.n y.c) (.slice y.B y.m y.d)
          have k8 := k_r.but (put3_but (b := w2.heap.size) (.bool y.s) (.slice y.A y.n y.c) (.slice y.B y.m y.d)) (by omega)
          have hzx : w5.heap.size ≤ (put3 w5 w2.heap.size (.bool y.s) (.slice y.A y.n y.c) (.slice y.B y.m y.d)).heap.size := by simp
          have hk : ∀ b, (w2.alloc (.cells #[.bool false, .slice none 0 0, .slice none 0 0] 24)).drew.heap.size ≤ b → b < w5.heap.size → (put3 w5 w2.heap.size (.bool y.s) (.slice y.A y.n y.c) (.slice y.B y.m y.d)).heap[b]? = w5.heap[b]? := fun b h1 h2 => (put3_but (b := w2.heap.size) (.bool y.s) (.slice y.A y.n y.c) (.slice y.B y.m y.d)).block b h2 (by omega)
          have ht8 : Tw (put3 w5 w2.heap.size (.bool y.s) (.slice y.A y.n y.c) (.slice y.B y.m y.d)) (fun b => w.heap.size + 1 ≤ b) (.num 0) ⟨1, y, ⟨#[]⟩, none, 0, 0⟩ :=
            ⟨rfl, (ht.lower (Nat.zero_le _)).keepB hy hzx hk, fun h1 A hA => Nat.le_trans (by omega) (hy.1 h1 A hA), fun h1 A hA => Nat.le_trans (by omega) (hy.2 h1 A hA)⟩
          obtain ⟨s0, s1, s2, s3, s4, s5⟩ := k8.facts
          obtain ⟨r0, r1, r2, r3, r4, r5⟩ := k8.thaw
          obtain ⟨g0, g1, g2, g3, g4, g5⟩ := hr8.facts
          obtain ⟨f1, f2, f3, f4, f5⟩ := hr8.thaw
          clear h0 h1 h2 h3 h4 h5
          go_wp2
          · rename_i hlg
            subst hlg
            refine ret6 (fn := Tryz.f99) Tryz.results99 rfl rfl (k8.setOther (by omega) 5 (.bool true)) ?_
            rw [hres.out]
            exact ⟨⟨1, y, ⟨#[]⟩, none, 0, 0⟩, rfl, ((ht8.but ((But.refl g _).set 5 (.bool true)) (fun b h1 => by omega)).but (put6_but _ _ _ _ _ _) (fun b h1 => by omega)).wide (fun b h1 => by omega), (hr8.set5 true).put (by omega) (by omega) _ _ _ _ _ _, (hb8.set 5 (.bool true)).put (Nat.le_refl _) _ _ _ _ _ _⟩
          · rename_i hlg
            have hlf : lg = false := by cases lg <;> simp_all
            subst hlf
            refine ret6 (fn := Tryz.f99) Tryz.results99 rfl rfl (k8.setOther (by omega) 5 (.bool true)) ?_
            rw [hres.out]
            exact ⟨⟨1, y, ⟨#[]⟩, none, 0, 0⟩, rfl, ((ht8.but ((But.refl g _).set 5 (.bool true)) (fun b h1 => by omega)).but (put6_but _ _ _ _ _ _) (fun b h1 => by omega)).wide (fun b h1 => by omega), (hr8.set5 true).put (by omega) (by omega) _ _ _ _ _ _, (hb8.set 5 (.bool true)).put (Nat.le_refl _) _ _ _ _ _ _⟩
end Go.Proofs.YtcmkgoikmleanaaGreatDoor
