/-
  NatOwn: what is handed in is not changed, nor kept.
-/
import Derived.Test.YtojgpoochclnfaaGcd
import Derived.Test.YtojgpoochclnfaaNSub
import Derived.Test.YtojgpoochclnfaaRMul
namespace Go.Proofs.Ytojgpoochclnfaa
open Go.RowKit

theorem Row.keepMap {w w' : World} {lo n : Nat} {A X : Option Addr} {l : List Nat} (h : Row w lo A n l) (hg : w.grownBy w' (X.map (·.block))) (hX : ∀ ad, X = some ad → ad.block < lo) : Row w' lo A n l :=
  ⟨h.len, h.l32, fun hn => by
    obtain ⟨b, off, e, h1, h2, hc⟩ := h.mem hn
    refine ⟨b, off, e, h1, by have := hg.size; omega, fun j hj => hg.cell (hc j hj) ?_⟩
    cases X with
    | none => simp
    | some ad =>
      have := hX ad rfl
      simp
      show ¬ b = ad.block
      omega⟩
theorem Own.blockLt {w : World} {lo n c : Nat} {A : Option Addr} {l : List Nat} (h : Own w lo A c n l) : ∀ ad, A = some ad → lo ≤ ad.block ∧ ad.block < w.heap.size := by
  intro ad e
  subst e
  exact h.own.lt ad.block rfl
theorem below_map {w wr w3 : World} {X : Option Addr} (hb : Below w.heap.size w wr) (hX : ∀ ad, X = some ad → w.heap.size ≤ ad.block) (hg : wr.grownBy w3 (X.map (·.block))) : Below w.heap.size w w3 :=
  hb.trans ⟨hg.os, hg.tape, hg.output, hg.size, fun q hq => hg.block q (by have := hb.size; omega) (by
    cases X with
    | none => simp
    | some ad => have := hX ad rfl; simp; omega)⟩

set_option maxRecDepth 100000 in
set_option maxHeartbeats 2000000 in
theorem NatOwn_z (A B : Option Addr) (n m ka kb : Nat) (a b : List Nat) (w : World) (h_a_n : n ≤ 8) (h_b_n : m ≤ 8) (h_a_c : n ≤ ka) (ha0 : Hid (Row w 0 A n a)) (hb0 : Hid (Row w 0 B m b)) (h1 : Hid (val b = 0)) (h2 : Hid (val b ≤ val a)) :
    Calls Try.prog 10 #[.slice A n ka, .slice B m kb] w fun e w' => e = .returned (.bool true) ∧ Below w.heap.size w w' := by
  have h_a := ha0.out
  have h_b := hb0.out
  go_enter Try.func10, Try.ntmps10
  go_wp2_with (at_builtin; refine wpl_append rfl _ _ rfl rfl rfl (Own.empty w) (h_a.alloc _) (by omega) (by simp) ?_)
  intro X cx w1 ho1 hg1
  have h_xo : Own w1 w.heap.size X cx n a := by simpa using ho1
  have hb1 := (below_alloc w (.cells #[] 41)).trans (below_of_grown_row hg1 (Nat.le_refl _) (by simp))
  have h_x := h_xo.row.lower (Nat.zero_le _)
  have h_x_c := h_xo.capLe
  replace h_a := h_a.below hb1
  replace h_b := h_b.below hb1
  clear ho1 hg1
  go_wp2_with (at_builtin; refine wpl_append rfl _ _ rfl rfl rfl (Own.empty w1) (h_b.alloc _) (by omega) (by simp) ?_)
  intro Y cy w2 ho2 hg2
  have h_yo : Own w2 w1.heap.size Y cy m b := by simpa using ho2
  have hb2 := (below_alloc w1 (.cells #[] 41)).trans (below_of_grown_row hg2 (Nat.le_refl _) (by simp))
  have h_y := h_yo.row.lower (Nat.zero_le _)
  have h_y_c := h_yo.capLe
  replace h_a := h_a.below hb2
  replace h_b := h_b.below hb2
  replace h_x := h_x.below hb2
  replace h_xo := h_xo.below hb2
  have HB := hb1.trans (hb2.mono hb1.size)
  clear ho2 hg2 hb1 hb2 h_yo
  go_wp2_with fail
  refine (Add_any X Y n m cx cy a b _ (by omega) (by omega) h_x_c h_y_c h_x h_y).mono ?_
  rintro e w3 ⟨S3, s3, rfl, ho, hb⟩
  have h_s := ho.row
  have h_s_c := ho.capLe
  have hXs : ∀ ad, X = some ad → ad.block < w2.heap.size := fun ad e => (h_xo.blockLt ad e).2
  replace h_a := h_a.below hb
  replace h_b := h_b.below hb
  replace h_x := h_x.below hb
  replace h_y := h_y.below hb
  replace h_xo := h_xo.below hb
  replace HB := HB.trans (hb.mono HB.size)
  clear ho hb
  go_wp2_with fail
  refine (Trim_any X n cx a _ (by omega) h_x_c h_x).mono ?_
  rintro e w4 ⟨t4, rfl, ho, hb⟩
  have h_t := ho.row
  have hXt : ∀ ad, X = some ad → ad.block < w3.heap.size := fun ad e => (h_xo.blockLt ad e).2
  replace h_a := h_a.below hb
  replace h_b := h_b.below hb
  replace h_x := h_x.below hb
  replace h_y := h_y.below hb
  replace h_xo := h_xo.below hb
  replace h_s := h_s.below hb
  replace HB := HB.trans (hb.mono HB.size)
  clear ho hb
  go_wp2_with fail
  refine (Mul_any X Y n m cx cy a b _ (by omega) (by omega) h_x_c h_y_c h_x h_y).mono ?_
  rintro e w5 ⟨M5, mc5, rfl, ho, hb⟩
  replace h_a := h_a.below hb
  replace h_b := h_b.below hb
  replace h_s := h_s.below hb
  replace h_t := h_t.below hb
  replace h_x := h_x.below hb
  replace h_y := h_y.below hb
  replace h_xo := h_xo.below hb
  replace HB := HB.trans (hb.mono HB.size)
  clear ho hb
  go_wp2_with fail
  refine (DivMod_zero X Y n m cx cy a b _ (by omega) (by omega) h_x_c h_y_c h_x h_y h1.out).mono ?_
  rintro e w' ⟨rfl, rfl⟩
  go_wp2_with fail
  refine (Gcd_any X Y n m cx cy (val a) (val b) a b _ (by omega) (by omega) h_x_c h_y_c h_x h_y rfl rfl).mono ?_
  rintro e w6 ⟨G6, gc6, rfl, hc, hr, hb⟩
  replace h_a := h_a.below hb
  replace h_b := h_b.below hb
  replace h_s := h_s.below hb
  replace h_t := h_t.below hb
  replace h_x := h_x.below hb
  replace h_y := h_y.below hb
  replace h_xo := h_xo.below hb
  replace HB := HB.trans (hb.mono HB.size)
  clear hc hr hb
  go_wp2_with fail
  refine (Sub_yes X Y n m cx cy a b _ (by omega) (by omega) h_x_c h_y_c h_x h_y h2.out).mono ?_
  rintro e w7 ⟨U7, uc7, rfl, ho, hb⟩
  replace h_a := h_a.below hb
  replace h_b := h_b.below hb
  replace h_s := h_s.below hb
  replace h_t := h_t.below hb
  replace h_x := h_x.below hb
  replace h_y := h_y.below hb
  replace h_xo := h_xo.below hb
  replace HB := HB.trans (hb.mono HB.size)
  clear ho hb
  go_wp2_with fail
  refine (limbs_yes X A n cx ka a _ (by omega) h_x h_a).mono ?_
  rintro e w8 ⟨rfl, qq, hq⟩
  have hb : Below w7.heap.size w7 w8 := by rw [hq]; exact below_drewN' _ _ _
  clear hq
  replace h_a := h_a.below hb
  replace h_b := h_b.below hb
  replace h_s := h_s.below hb
  replace h_t := h_t.below hb
  replace h_x := h_x.below hb
  replace h_y := h_y.below hb
  replace h_xo := h_xo.below hb
  replace HB := HB.trans (hb.mono HB.size)
  clear hb
  go_wp2_with fail
  refine (limbs_yes Y B m cy kb b _ (by omega) h_y h_b).mono ?_
  rintro e w9 ⟨rfl, qq, hq⟩
  have hb : Below w8.heap.size w8 w9 := by rw [hq]; exact below_drewN' _ _ _
  clear hq
  replace h_a := h_a.below hb
  replace h_b := h_b.below hb
  replace h_s := h_s.below hb
  replace h_t := h_t.below hb
  replace h_x := h_x.below hb
  replace h_y := h_y.below hb
  replace h_xo := h_xo.below hb
  replace HB := HB.trans (hb.mono HB.size)
  clear hb
  have HOX := Lib.hid h_xo
  have HG0 : Hid (w9.grownBy w9 (X.map (·.block))) := World.grownBy.refl _ _
  have HBW := Lib.hid HB
  have HS := Lib.hid h_s
  have HT := Lib.hid h_t
  clear h_xo h_x h_y h_s h_t HB h_a h_b
  go_wp2
  go_loopw [10] (fun iv wr => ∃ (k : Nat) (L : List Nat), k ≤ n ∧ iv = .int .i64 k ∧ Hid (Own wr w.heap.size X cx n L) ∧ Hid (w9.grownBy wr (X.map (·.block)))) (fun iv _ => n - (intOf iv).toNat)
  case atStart => exact ⟨0, a, by omega, rfl, HOX, HG0⟩
  case round =>
    obtain ⟨k, L, hk, rfl, HO, HG⟩ := hrel
    by_cases hkn : k < n
    · obtain ⟨g, rfl, hg1, hg2⟩ := HO.out.form (by omega)
      obtain ⟨b2, off2, hA2, h7, h8, hc2⟩ := HO.out.row.mem (by omega)
      injection hA2 with hA2
      injection hA2 with e1 e2
      subst e1 e2
      have hcs := hc2 k hkn
      rw [Nat.zero_add] at hcs
      have hfs := HO.out.own.frozenAt k
      have HO2 := Lib.hid (HO.out.set (j := k) (x := 7) (by omega))
      have HG2 := Lib.hid (show w9.grownBy (wr.setCell ⟨g, k, none⟩ (.int .u32 ((7 : Nat) : Int))) ((some (⟨g, 0, none⟩ : Addr)).map (·.block)) from grown_set HG.out)
      clear hc2 HO HG HG0 HOX
      go_wp2
      go_roundw
      case rel => exact ⟨k + 1, _, by omega, by go_num, HO2, HG2⟩
      case measure => simp [intOf]; omega
    · have hXb : ∀ ad, X = some ad → w.heap.size ≤ ad.block := fun ad e => (HO.out.blockLt ad e).1
      have HB := below_map HBW.out hXb HG.out
      have h_a := ha0.out.below HB
      have h_b := hb0.out.below HB
      have h_s := (HS.out.keepMap HG.out hXs).lower (Nat.zero_le _)
      have h_t := (HT.out.keepMap HG.out hXt).lower (Nat.zero_le _)
      have h_a_b := h_a.bd h_a_n
      have h_b_b := h_b.bd h_b_n
      have hsl := (h_a_b.add h_b_b).len
      have htl := h_a_b.len
      clear HO HG HS HT HBW HOX HG0 hXb
      go_wp2_with fail
      refine (rAdd_any A B n m ka kb a b _ (by omega) (by omega) h_a h_b).mono ?_
      rintro e v1 ⟨P1, pc1, rfl, ho, hb⟩
      have h_p := ho.row.lower (Nat.zero_le _)
      replace h_a := h_a.below hb
      replace h_b := h_b.below hb
      replace h_s := h_s.below hb
      replace h_t := h_t.below hb
      replace HB := HB.trans (hb.mono HB.size)
      clear ho hb
      go_wp2_with fail
      refine (limbs_v (val a + val b) (val a + val b) S3 P1 s3 pc1 _ rfl (by omega) h_s h_p).mono ?_
      rintro e v2 ⟨rfl, hb⟩
      replace h_a := h_a.below hb
      replace h_b := h_b.below hb
      replace h_s := h_s.below hb
      replace h_t := h_t.below hb
      replace h_p := h_p.below hb
      replace HB := HB.trans (hb.mono HB.size)
      clear hb
      go_wp2_with fail
      refine (rTrim_any A n ka a _ (by omega) h_a_c h_a).mono ?_
      rintro e v3 ⟨P2, pc2, rfl, ho, hb⟩
      have h_r := ho.row.lower (Nat.zero_le _)
      replace h_a := h_a.below hb
      replace h_b := h_b.below hb
      replace h_s := h_s.below hb
      replace h_t := h_t.below hb
      replace h_p := h_p.below hb
      replace HB := HB.trans (hb.mono HB.size)
      clear ho hb
      go_wp2_with fail
      refine (limbs_v (val a) (val a) (some ⟨t4, 0, none⟩) P2 _ pc2 _ rfl (by omega) h_t h_r).mono ?_
      rintro e v4 ⟨rfl, hb⟩
      replace h_a := h_a.below hb
      replace h_b := h_b.below hb
      replace h_s := h_s.below hb
      replace h_t := h_t.below hb
      replace h_p := h_p.below hb
      replace h_r := h_r.below hb
      replace HB := HB.trans (hb.mono HB.size)
      clear hb
      go_wp2_with fail
      refine (known_any _).mono ?_
      rintro e v5 ⟨rfl, hb⟩
      replace HB := HB.trans (hb.mono HB.size)
      clear hb
      go_wp2
      go_ret
      exact ⟨rfl, HB⟩

set_option maxRecDepth 100000 in
set_option maxHeartbeats 2000000 in
theorem NatOwn_p (A B : Option Addr) (n m ka kb : Nat) (a b : List Nat) (w : World) (h_a_n : n ≤ 8) (h_b_n : m ≤ 8) (h_a_c : n ≤ ka) (ha0 : Hid (Row w 0 A n a)) (hb0 : Hid (Row w 0 B m b)) (h1 : Hid (0 < val b)) (h2 : Hid (val b ≤ val a)) :
    Calls Try.prog 10 #[.slice A n ka, .slice B m kb] w fun e w' => e = .returned (.bool true) ∧ Below w.heap.size w w' := by
  have h_a := ha0.out
  have h_b := hb0.out
  go_enter Try.func10, Try.ntmps10
  go_wp2_with (at_builtin; refine wpl_append rfl _ _ rfl rfl rfl (Own.empty w) (h_a.alloc _) (by omega) (by simp) ?_)
  intro X cx w1 ho1 hg1
  have h_xo : Own w1 w.heap.size X cx n a := by simpa using ho1
  have hb1 := (below_alloc w (.cells #[] 41)).trans (below_of_grown_row hg1 (Nat.le_refl _) (by simp))
  have h_x := h_xo.row.lower (Nat.zero_le _)
  have h_x_c := h_xo.capLe
  replace h_a := h_a.below hb1
  replace h_b := h_b.below hb1
  clear ho1 hg1
  go_wp2_with (at_builtin; refine wpl_append rfl _ _ rfl rfl rfl (Own.empty w1) (h_b.alloc _) (by omega) (by simp) ?_)
  intro Y cy w2 ho2 hg2
  have h_yo : Own w2 w1.heap.size Y cy m b := by simpa using ho2
  have hb2 := (below_alloc w1 (.cells #[] 41)).trans (below_of_grown_row hg2 (Nat.le_refl _) (by simp))
  have h_y := h_yo.row.lower (Nat.zero_le _)
  have h_y_c := h_yo.capLe
  replace h_a := h_a.below hb2
  replace h_b := h_b.below hb2
  replace h_x := h_x.below hb2
  replace h_xo := h_xo.below hb2
  have HB := hb1.trans (hb2.mono hb1.size)
  clear ho2 hg2 hb1 hb2 h_yo
  go_wp2_with fail
  refine (Add_any X Y n m cx cy a b _ (by omega) (by omega) h_x_c h_y_c h_x h_y).mono ?_
  rintro e w3 ⟨S3, s3, rfl, ho, hb⟩
  have h_s := ho.row
  have h_s_c := ho.capLe
  have hXs : ∀ ad, X = some ad → ad.block < w2.heap.size := fun ad e => (h_xo.blockLt ad e).2
  replace h_a := h_a.below hb
  replace h_b := h_b.below hb
  replace h_x := h_x.below hb
  replace h_y := h_y.below hb
  replace h_xo := h_xo.below hb
  replace HB := HB.trans (hb.mono HB.size)
  clear ho hb
  go_wp2_with fail
  refine (Trim_any X n cx a _ (by omega) h_x_c h_x).mono ?_
  rintro e w4 ⟨t4, rfl, ho, hb⟩
  have h_t := ho.row
  have hXt : ∀ ad, X = some ad → ad.block < w3.heap.size := fun ad e => (h_xo.blockLt ad e).2
  replace h_a := h_a.below hb
  replace h_b := h_b.below hb
  replace h_x := h_x.below hb
  replace h_y := h_y.below hb
  replace h_xo := h_xo.below hb
  replace h_s := h_s.below hb
  replace HB := HB.trans (hb.mono HB.size)
  clear ho hb
  go_wp2_with fail
  refine (Mul_any X Y n m cx cy a b _ (by omega) (by omega) h_x_c h_y_c h_x h_y).mono ?_
  rintro e w5 ⟨M5, mc5, rfl, ho, hb⟩
  replace h_a := h_a.below hb
  replace h_b := h_b.below hb
  replace h_s := h_s.below hb
  replace h_t := h_t.below hb
  replace h_x := h_x.below hb
  replace h_y := h_y.below hb
  replace h_xo := h_xo.below hb
  replace HB := HB.trans (hb.mono HB.size)
  clear ho hb
  go_wp2_with fail
  refine (DivMod_pos X Y n m cx cy (val a) (val b) a b _ (by omega) (by omega) h_x_c h_y_c h_x h_y rfl rfl h1.out).mono ?_
  rintro e w6 ⟨Q6, qc6, R6, rc6, rfl, ho, ho2, hb⟩
  replace h_a := h_a.below hb
  replace h_b := h_b.below hb
  replace h_s := h_s.below hb
  replace h_t := h_t.below hb
  replace h_x := h_x.below hb
  replace h_y := h_y.below hb
  replace h_xo := h_xo.below hb
  replace HB := HB.trans (hb.mono HB.size)
  clear ho ho2 hb
  go_wp2_with fail
  refine (Gcd_any X Y n m cx cy (val a) (val b) a b _ (by omega) (by omega) h_x_c h_y_c h_x h_y rfl rfl).mono ?_
  rintro e w7 ⟨G7, gc7, rfl, hc, hr, hb⟩
  replace h_a := h_a.below hb
  replace h_b := h_b.below hb
  replace h_s := h_s.below hb
  replace h_t := h_t.below hb
  replace h_x := h_x.below hb
  replace h_y := h_y.below hb
  replace h_xo := h_xo.below hb
  replace HB := HB.trans (hb.mono HB.size)
  clear hc hr hb
  go_wp2_with fail
  refine (Sub_yes X Y n m cx cy a b _ (by omega) (by omega) h_x_c h_y_c h_x h_y h2.out).mono ?_
  rintro e w8 ⟨U8, uc8, rfl, ho, hb⟩
  replace h_a := h_a.below hb
  replace h_b := h_b.below hb
  replace h_s := h_s.below hb
  replace h_t := h_t.below hb
  replace h_x := h_x.below hb
  replace h_y := h_y.below hb
  replace h_xo := h_xo.below hb
  replace HB := HB.trans (hb.mono HB.size)
  clear ho hb
  go_wp2_with fail
  refine (limbs_yes X A n cx ka a _ (by omega) h_x h_a).mono ?_
  rintro e w9 ⟨rfl, qq, hq⟩
  have hb : Below w8.heap.size w8 w9 := by rw [hq]; exact below_drewN' _ _ _
  clear hq
  replace h_a := h_a.below hb
  replace h_b := h_b.below hb
  replace h_s := h_s.below hb
  replace h_t := h_t.below hb
  replace h_x := h_x.below hb
  replace h_y := h_y.below hb
  replace h_xo := h_xo.below hb
  replace HB := HB.trans (hb.mono HB.size)
  clear hb
  go_wp2_with fail
  refine (limbs_yes Y B m cy kb b _ (by omega) h_y h_b).mono ?_
  rintro e w10 ⟨rfl, qq, hq⟩
  have hb : Below w9.heap.size w9 w10 := by rw [hq]; exact below_drewN' _ _ _
  clear hq
  replace h_a := h_a.below hb
  replace h_b := h_b.below hb
  replace h_s := h_s.below hb
  replace h_t := h_t.below hb
  replace h_x := h_x.below hb
  replace h_y := h_y.below hb
  replace h_xo := h_xo.below hb
  replace HB := HB.trans (hb.mono HB.size)
  clear hb
  have HOX := Lib.hid h_xo
  have HG0 : Hid (w10.grownBy w10 (X.map (·.block))) := World.grownBy.refl _ _
  have HBW := Lib.hid HB
  have HS := Lib.hid h_s
  have HT := Lib.hid h_t
  clear h_xo h_x h_y h_s h_t HB h_a h_b
  go_wp2
  go_loopw [10] (fun iv wr => ∃ (k : Nat) (L : List Nat), k ≤ n ∧ iv = .int .i64 k ∧ Hid (Own wr w.heap.size X cx n L) ∧ Hid (w10.grownBy wr (X.map (·.block)))) (fun iv _ => n - (intOf iv).toNat)
  case atStart => exact ⟨0, a, by omega, rfl, HOX, HG0⟩
  case round =>
    obtain ⟨k, L, hk, rfl, HO, HG⟩ := hrel
    by_cases hkn : k < n
    · obtain ⟨g, rfl, hg1, hg2⟩ := HO.out.form (by omega)
      obtain ⟨b2, off2, hA2, h7, h8, hc2⟩ := HO.out.row.mem (by omega)
      injection hA2 with hA2
      injection hA2 with e1 e2
      subst e1 e2
      have hcs := hc2 k hkn
      rw [Nat.zero_add] at hcs
      have hfs := HO.out.own.frozenAt k
      have HO2 := Lib.hid (HO.out.set (j := k) (x := 7) (by omega))
      have HG2 := Lib.hid (show w10.grownBy (wr.setCell ⟨g, k, none⟩ (.int .u32 ((7 : Nat) : Int))) ((some (⟨g, 0, none⟩ : Addr)).map (·.block)) from grown_set HG.out)
      clear hc2 HO HG HG0 HOX
      go_wp2
      go_roundw
      case rel => exact ⟨k + 1, _, by omega, by go_num, HO2, HG2⟩
      case measure => simp [intOf]; omega
    · have hXb : ∀ ad, X = some ad → w.heap.size ≤ ad.block := fun ad e => (HO.out.blockLt ad e).1
      have HB := below_map HBW.out hXb HG.out
      have h_a := ha0.out.below HB
      have h_b := hb0.out.below HB
      have h_s := (HS.out.keepMap HG.out hXs).lower (Nat.zero_le _)
      have h_t := (HT.out.keepMap HG.out hXt).lower (Nat.zero_le _)
      have h_a_b := h_a.bd h_a_n
      have h_b_b := h_b.bd h_b_n
      have hsl := (h_a_b.add h_b_b).len
      have htl := h_a_b.len
      clear HO HG HS HT HBW HOX HG0 hXb
      go_wp2_with fail
      refine (rAdd_any A B n m ka kb a b _ (by omega) (by omega) h_a h_b).mono ?_
      rintro e v1 ⟨P1, pc1, rfl, ho, hb⟩
      have h_p := ho.row.lower (Nat.zero_le _)
      replace h_a := h_a.below hb
      replace h_b := h_b.below hb
      replace h_s := h_s.below hb
      replace h_t := h_t.below hb
      replace HB := HB.trans (hb.mono HB.size)
      clear ho hb
      go_wp2_with fail
      refine (limbs_v (val a + val b) (val a + val b) S3 P1 s3 pc1 _ rfl (by omega) h_s h_p).mono ?_
      rintro e v2 ⟨rfl, hb⟩
      replace h_a := h_a.below hb
      replace h_b := h_b.below hb
      replace h_s := h_s.below hb
      replace h_t := h_t.below hb
      replace h_p := h_p.below hb
      replace HB := HB.trans (hb.mono HB.size)
      clear hb
      go_wp2_with fail
      refine (rTrim_any A n ka a _ (by omega) h_a_c h_a).mono ?_
      rintro e v3 ⟨P2, pc2, rfl, ho, hb⟩
      have h_r := ho.row.lower (Nat.zero_le _)
      replace h_a := h_a.below hb
      replace h_b := h_b.below hb
      replace h_s := h_s.below hb
      replace h_t := h_t.below hb
      replace h_p := h_p.below hb
      replace HB := HB.trans (hb.mono HB.size)
      clear ho hb
      go_wp2_with fail
      refine (limbs_v (val a) (val a) (some ⟨t4, 0, none⟩) P2 _ pc2 _ rfl (by omega) h_t h_r).mono ?_
      rintro e v4 ⟨rfl, hb⟩
      replace h_a := h_a.below hb
      replace h_b := h_b.below hb
      replace h_s := h_s.below hb
      replace h_t := h_t.below hb
      replace h_p := h_p.below hb
      replace h_r := h_r.below hb
      replace HB := HB.trans (hb.mono HB.size)
      clear hb
      go_wp2_with fail
      refine (known_any _).mono ?_
      rintro e v5 ⟨rfl, hb⟩
      replace HB := HB.trans (hb.mono HB.size)
      clear hb
      go_wp2
      go_ret
      exact ⟨rfl, HB⟩

set_option maxRecDepth 100000 in
set_option maxHeartbeats 2000000 in
theorem NatOwn_l (A B : Option Addr) (n m ka kb : Nat) (a b : List Nat) (w : World) (h_a_n : n ≤ 8) (h_b_n : m ≤ 8) (h_a_c : n ≤ ka) (ha0 : Hid (Row w 0 A n a)) (hb0 : Hid (Row w 0 B m b)) (h1 : Hid (0 < val b)) (h2 : Hid (val a < val b)) :
    Calls Try.prog 10 #[.slice A n ka, .slice B m kb] w fun e w' => e = .returned (.bool true) ∧ Below w.heap.size w w' := by
  have h_a := ha0.out
  have h_b := hb0.out
  go_enter Try.func10, Try.ntmps10
  go_wp2_with (at_builtin; refine wpl_append rfl _ _ rfl rfl rfl (Own.empty w) (h_a.alloc _) (by omega) (by simp) ?_)
  intro X cx w1 ho1 hg1
  have h_xo : Own w1 w.heap.size X cx n a := by simpa using ho1
  have hb1 := (below_alloc w (.cells #[] 41)).trans (below_of_grown_row hg1 (Nat.le_refl _) (by simp))
  have h_x := h_xo.row.lower (Nat.zero_le _)
  have h_x_c := h_xo.capLe
  replace h_a := h_a.below hb1
  replace h_b := h_b.below hb1
  clear ho1 hg1
  go_wp2_with (at_builtin; refine wpl_append rfl _ _ rfl rfl rfl (Own.empty w1) (h_b.alloc _) (by omega) (by simp) ?_)
  intro Y cy w2 ho2 hg2
  have h_yo : Own w2 w1.heap.size Y cy m b := by simpa using ho2
  have hb2 := (below_alloc w1 (.cells #[] 41)).trans (below_of_grown_row hg2 (Nat.le_refl _) (by simp))
  have h_y := h_yo.row.lower (Nat.zero_le _)
  have h_y_c := h_yo.capLe
  replace h_a := h_a.below hb2
  replace h_b := h_b.below hb2
  replace h_x := h_x.below hb2
  replace h_xo := h_xo.below hb2
  have HB := hb1.trans (hb2.mono hb1.size)
  clear ho2 hg2 hb1 hb2 h_yo
  go_wp2_with fail
  refine (Add_any X Y n m cx cy a b _ (by omega) (by omega) h_x_c h_y_c h_x h_y).mono ?_
  rintro e w3 ⟨S3, s3, rfl, ho, hb⟩
  have h_s := ho.row
  have h_s_c := ho.capLe
  have hXs : ∀ ad, X = some ad → ad.block < w2.heap.size := fun ad e => (h_xo.blockLt ad e).2
  replace h_a := h_a.below hb
  replace h_b := h_b.below hb
  replace h_x := h_x.below hb
  replace h_y := h_y.below hb
  replace h_xo := h_xo.below hb
  replace HB := HB.trans (hb.mono HB.size)
  clear ho hb
  go_wp2_with fail
  refine (Trim_any X n cx a _ (by omega) h_x_c h_x).mono ?_
  rintro e w4 ⟨t4, rfl, ho, hb⟩
  have h_t := ho.row
  have hXt : ∀ ad, X = some ad → ad.block < w3.heap.size := fun ad e => (h_xo.blockLt ad e).2
  replace h_a := h_a.below hb
  replace h_b := h_b.below hb
  replace h_x := h_x.below hb
  replace h_y := h_y.below hb
  replace h_xo := h_xo.below hb
  replace h_s := h_s.below hb
  replace HB := HB.trans (hb.mono HB.size)
  clear ho hb
  go_wp2_with fail
  refine (Mul_any X Y n m cx cy a b _ (by omega) (by omega) h_x_c h_y_c h_x h_y).mono ?_
  rintro e w5 ⟨M5, mc5, rfl, ho, hb⟩
  replace h_a := h_a.below hb
  replace h_b := h_b.below hb
  replace h_s := h_s.below hb
  replace h_t := h_t.below hb
  replace h_x := h_x.below hb
  replace h_y := h_y.below hb
  replace h_xo := h_xo.below hb
  replace HB := HB.trans (hb.mono HB.size)
  clear ho hb
  go_wp2_with fail
  refine (DivMod_pos X Y n m cx cy (val a) (val b) a b _ (by omega) (by omega) h_x_c h_y_c h_x h_y rfl rfl h1.out).mono ?_
  rintro e w6 ⟨Q6, qc6, R6, rc6, rfl, ho, ho2, hb⟩
  replace h_a := h_a.below hb
  replace h_b := h_b.below hb
  replace h_s := h_s.below hb
  replace h_t := h_t.below hb
  replace h_x := h_x.below hb
  replace h_y := h_y.below hb
  replace h_xo := h_xo.below hb
  replace HB := HB.trans (hb.mono HB.size)
  clear ho ho2 hb
  go_wp2_with fail
  refine (Gcd_any X Y n m cx cy (val a) (val b) a b _ (by omega) (by omega) h_x_c h_y_c h_x h_y rfl rfl).mono ?_
  rintro e w7 ⟨G7, gc7, rfl, hc, hr, hb⟩
  replace h_a := h_a.below hb
  replace h_b := h_b.below hb
  replace h_s := h_s.below hb
  replace h_t := h_t.below hb
  replace h_x := h_x.below hb
  replace h_y := h_y.below hb
  replace h_xo := h_xo.below hb
  replace HB := HB.trans (hb.mono HB.size)
  clear hc hr hb
  go_wp2_with fail
  refine (Sub_no X Y n m cx cy a b _ (by omega) (by omega) h_x_c h_y_c h_x h_y h2.out).mono ?_
  rintro e w8 ⟨rfl, hb⟩
  replace h_a := h_a.below hb
  replace h_b := h_b.below hb
  replace h_s := h_s.below hb
  replace h_t := h_t.below hb
  replace h_x := h_x.below hb
  replace h_y := h_y.below hb
  replace h_xo := h_xo.below hb
  replace HB := HB.trans (hb.mono HB.size)
  clear hb
  go_wp2_with fail
  refine (limbs_yes X A n cx ka a _ (by omega) h_x h_a).mono ?_
  rintro e w9 ⟨rfl, qq, hq⟩
  have hb : Below w8.heap.size w8 w9 := by rw [hq]; exact below_drewN' _ _ _
  clear hq
  replace h_a := h_a.below hb
  replace h_b := h_b.below hb
  replace h_s := h_s.below hb
  replace h_t := h_t.below hb
  replace h_x := h_x.below hb
  replace h_y := h_y.below hb
  replace h_xo := h_xo.below hb
  replace HB := HB.trans (hb.mono HB.size)
  clear hb
  go_wp2_with fail
  refine (limbs_yes Y B m cy kb b _ (by omega) h_y h_b).mono ?_
  rintro e w10 ⟨rfl, qq, hq⟩
  have hb : Below w9.heap.size w9 w10 := by rw [hq]; exact below_drewN' _ _ _
  clear hq
  replace h_a := h_a.below hb
  replace h_b := h_b.below hb
  replace h_s := h_s.below hb
  replace h_t := h_t.below hb
  replace h_x := h_x.below hb
  replace h_y := h_y.below hb
  replace h_xo := h_xo.below hb
  replace HB := HB.trans (hb.mono HB.size)
  clear hb
  have HOX := Lib.hid h_xo
  have HG0 : Hid (w10.grownBy w10 (X.map (·.block))) := World.grownBy.refl _ _
  have HBW := Lib.hid HB
  have HS := Lib.hid h_s
  have HT := Lib.hid h_t
  clear h_xo h_x h_y h_s h_t HB h_a h_b
  go_wp2
  go_loopw [10] (fun iv wr => ∃ (k : Nat) (L : List Nat), k ≤ n ∧ iv = .int .i64 k ∧ Hid (Own wr w.heap.size X cx n L) ∧ Hid (w10.grownBy wr (X.map (·.block)))) (fun iv _ => n - (intOf iv).toNat)
  case atStart => exact ⟨0, a, by omega, rfl, HOX, HG0⟩
  case round =>
    obtain ⟨k, L, hk, rfl, HO, HG⟩ := hrel
    by_cases hkn : k < n
    · obtain ⟨g, rfl, hg1, hg2⟩ := HO.out.form (by omega)
      obtain ⟨b2, off2, hA2, h7, h8, hc2⟩ := HO.out.row.mem (by omega)
      injection hA2 with hA2
      injection hA2 with e1 e2
      subst e1 e2
      have hcs := hc2 k hkn
      rw [Nat.zero_add] at hcs
      have hfs := HO.out.own.frozenAt k
      have HO2 := Lib.hid (HO.out.set (j := k) (x := 7) (by omega))
      have HG2 := Lib.hid (show w10.grownBy (wr.setCell ⟨g, k, none⟩ (.int .u32 ((7 : Nat) : Int))) ((some (⟨g, 0, none⟩ : Addr)).map (·.block)) from grown_set HG.out)
      clear hc2 HO HG HG0 HOX
      go_wp2
      go_roundw
      case rel => exact ⟨k + 1, _, by omega, by go_num, HO2, HG2⟩
      case measure => simp [intOf]; omega
    · have hXb : ∀ ad, X = some ad → w.heap.size ≤ ad.block := fun ad e => (HO.out.blockLt ad e).1
      have HB := below_map HBW.out hXb HG.out
      have h_a := ha0.out.below HB
      have h_b := hb0.out.below HB
      have h_s := (HS.out.keepMap HG.out hXs).lower (Nat.zero_le _)
      have h_t := (HT.out.keepMap HG.out hXt).lower (Nat.zero_le _)
      have h_a_b := h_a.bd h_a_n
      have h_b_b := h_b.bd h_b_n
      have hsl := (h_a_b.add h_b_b).len
      have htl := h_a_b.len
      clear HO HG HS HT HBW HOX HG0 hXb
      go_wp2_with fail
      refine (rAdd_any A B n m ka kb a b _ (by omega) (by omega) h_a h_b).mono ?_
      rintro e v1 ⟨P1, pc1, rfl, ho, hb⟩
      have h_p := ho.row.lower (Nat.zero_le _)
      replace h_a := h_a.below hb
      replace h_b := h_b.below hb
      replace h_s := h_s.below hb
      replace h_t := h_t.below hb
      replace HB := HB.trans (hb.mono HB.size)
      clear ho hb
      go_wp2_with fail
      refine (limbs_v (val a + val b) (val a + val b) S3 P1 s3 pc1 _ rfl (by omega) h_s h_p).mono ?_
      rintro e v2 ⟨rfl, hb⟩
      replace h_a := h_a.below hb
      replace h_b := h_b.below hb
      replace h_s := h_s.below hb
      replace h_t := h_t.below hb
      replace h_p := h_p.below hb
      replace HB := HB.trans (hb.mono HB.size)
      clear hb
      go_wp2_with fail
      refine (rTrim_any A n ka a _ (by omega) h_a_c h_a).mono ?_
      rintro e v3 ⟨P2, pc2, rfl, ho, hb⟩
      have h_r := ho.row.lower (Nat.zero_le _)
      replace h_a := h_a.below hb
      replace h_b := h_b.below hb
      replace h_s := h_s.below hb
      replace h_t := h_t.below hb
      replace h_p := h_p.below hb
      replace HB := HB.trans (hb.mono HB.size)
      clear ho hb
      go_wp2_with fail
      refine (limbs_v (val a) (val a) (some ⟨t4, 0, none⟩) P2 _ pc2 _ rfl (by omega) h_t h_r).mono ?_
      rintro e v4 ⟨rfl, hb⟩
      replace h_a := h_a.below hb
      replace h_b := h_b.below hb
      replace h_s := h_s.below hb
      replace h_t := h_t.below hb
      replace h_p := h_p.below hb
      replace h_r := h_r.below hb
      replace HB := HB.trans (hb.mono HB.size)
      clear hb
      go_wp2_with fail
      refine (known_any _).mono ?_
      rintro e v5 ⟨rfl, hb⟩
      replace HB := HB.trans (hb.mono HB.size)
      clear hb
      go_wp2
      go_ret
      exact ⟨rfl, HB⟩

end Go.Proofs.Ytojgpoochclnfaa
