/-
  What sums are compared by; a range of sums swapped with another one.
  A range of sums swapped with another one.
-/
import Derived.Test.YtgffkaconhonlaaGreatWCRow
import Derived.Deep.RegionHeld3
import Derived.Sort.AtCall
import Derived.BigQuiet
import Derived.Test.YtgffkaconhonlaaGreatWMAa
import Derived.Test.YtgffkaconhonlaaGreatWRgn
namespace Go.Proofs.YtgffkaconhonlaaGreat
set_option maxRecDepth 20000
open Go.RowKit
theorem isNaN_c (x : Int) (w : World) : Calls Tryz.prog 97 #[.int .i64 x] w fun e w' => e = .returned (.bool false) ∧ Below w.heap.size w w' := by
 have h : (x != x) = false := by simp
 go_enter Tryz.func97, Tryz.ntmps97
 go_wp2
 go_ret
 exact ⟨by simp, Below.refl _ _⟩
def CmpPost (w : World) (e : Ending) (w' : World) : Prop := ∃ k : Int, e = .returned (.int .i64 k) ∧ -1 ≤ k ∧ k ≤ 1 ∧ Below w.heap.size w w'
set_option maxHeartbeats 1600000 in
theorem Compare_c (x y : Int) (w : World) : Calls Tryz.prog 73 #[.int .i64 x, .int .i64 y] w (CmpPost w) := by
 go_enter Tryz.func73, Tryz.ntmps73
 go_wp2_with fail
 refine (isNaN_c x _).mono ?_
 rintro e w1 ⟨rfl, hb⟩
 go_wp2_with fail
 refine (isNaN_c y _).mono ?_
 rintro e w2 ⟨rfl, hb2⟩
 have HB := Lib.hid (hb.trans (hb2.mono hb.size))
 clear hb hb2
 rcases Int.lt_trichotomy x y with h | h | h
 ·
  have h2 : ¬ y < x := by omega
  go_wp2
  go_ret
  exact ⟨-1, rfl, by omega, by omega, HB.out⟩
 ·
  have h2 : ¬ x < y := by omega
  have h3 : ¬ y < x := by omega
  clear h
  go_wp2
  go_ret
  exact ⟨0, rfl, by omega, by omega, HB.out⟩
 ·
  have h2 : ¬ x < y := by omega
  go_wp2
  go_ret
  exact ⟨1, rfl, by omega, by omega, HB.out⟩
set_option maxHeartbeats 1600000 in
theorem lit_c (u v : Cv) (w : World) : Calls Tryz.prog 72 #[.agg #[.int .i64 u.s, .slice u.A u.n u.c, .bool u.K.s, .slice u.K.A u.K.n u.K.c, .slice u.K.B u.K.m u.K.d], .agg #[.int .i64 v.s, .slice v.A v.n v.c, .bool v.K.s, .slice v.K.A v.K.n v.K.c, .slice v.K.B v.K.m v.K.d]] w (CmpPost w) := by
 go_enter Tryz.func72, Tryz.ntmps72
 go_wp2_with fail
 have HB : Below w.heap.size w ((w.alloc (.cells #[.int .i64 u.s, .slice u.A u.n u.c, .bool u.K.s, .slice u.K.A u.K.n u.K.c, .slice u.K.B u.K.m u.K.d] 28)).alloc (.cells #[.int .i64 v.s, .slice v.A v.n v.c, .bool v.K.s, .slice v.K.A v.K.n v.K.c, .slice v.K.B v.K.m v.K.d] 28)) := ((Below.refl _ _).alloc (Nat.le_refl _) _).alloc (by simp) _
 refine (Compare_c _ _ _).mono ?_
 rintro e w1 ⟨k, rfl, h1, h2, hb⟩
 have HB2 := Lib.hid (HB.trans (hb.mono HB.size))
 clear hb HB
 go_wp2
 go_ret
 exact ⟨k, rfl, h1, h2, HB2.out⟩
end Go.Proofs.YtgffkaconhonlaaGreat

namespace Go.Proofs.YtgffkaconhonlaaGreat
set_option maxRecDepth 20000
open Go.RowKit
set_option maxHeartbeats 6400000 in
theorem swapRange_c (lo c n g a b k : Nat) (l : List Cv) (w : World) (h : OwnC w lo (some ⟨g, 0, none⟩) c n l) (ha : a + k ≤ n) (hb : b + k ≤ n) (hn : n ≤ 1000) :
  Calls Tryz.prog 134 #[.slice (some ⟨g, 0, none⟩) n c, .int .i64 (a : Int), .int .i64 (b : Int), .int .i64 (k : Int), .func (.func 72) #[] #[]] w fun e w' => e = .returned (.tuple #[]) ∧ Srt lo c n g l w w' := by
 have HS := Lib.hid (Srt.start h)
 clear h
 have a0 : (0 : Int) ≤ (a : Int) := by omega
 have b0 : (0 : Int) ≤ (b : Int) := by omega
 have k0 : (0 : Int) ≤ (k : Int) := by omega
 have a1 : (a : Int) ≤ 1000 := by omega
 have b1 : (b : Int) ≤ 1000 := by omega
 have k1 : (k : Int) ≤ 1000 := by omega
 go_enter Tryz.func134, Tryz.ntmps134
 go_wp2
 go_loopw [10] (fun iv wr => ∃ i : Nat, i ≤ k ∧ iv = .int .i64 i ∧ Hid (Srt lo c n g l w wr)) (fun iv _ => k - (intOf iv).toNat)
 case atStart => exact ⟨0, by omega, rfl, HS⟩
 case round =>
  clear HS
  obtain ⟨i, hi, rfl, HS⟩ := hrel
  have i0 : (0 : Int) ≤ (i : Int) := by omega
  by_cases hlt : i < k
  ·
   have i1 : (i : Int) < (k : Int) := by omega
   obtain ⟨p, hpe⟩ : ∃ p, p = a + i := ⟨_, rfl⟩
   obtain ⟨q, hqe⟩ : ∃ q, q = b + i := ⟨_, rfl⟩
   obtain ⟨⟨l1, hp, ho⟩, hg⟩ := HS.out
   obtain ⟨u, hu⟩ : ∃ u, l1[p]? = some u := ⟨_, List.getElem?_eq_getElem (by rw [ho.len]; omega)⟩
   obtain ⟨v, hv⟩ : ∃ v, l1[q]? = some v := ⟨_, List.getElem?_eq_getElem (by rw [ho.len]; omega)⟩
   obtain ⟨x, hx⟩ : ∃ x, (l1.set p v)[q]? = some x := ⟨_, List.getElem?_eq_getElem (by rw [List.length_set, ho.len]; omega)⟩
   have ho1 : OwnC ((((((wr.setCell ⟨g, p * 5, none⟩ (.int .i64 v.s)).setCell ⟨g, p * 5 + 1, none⟩ (.slice v.A v.n v.c)).setCell ⟨g, p * 5 + 2, none⟩ (.bool v.K.s)).setCell ⟨g, p * 5 + 3, none⟩ (.slice v.K.A v.K.n v.K.c)).setCell ⟨g, p * 5 + 4, none⟩ (.slice v.K.B v.K.m v.K.d)).drew) lo (some ⟨g, 0, none⟩) c n (l1.set p v) := (ho.set (j := p) (t := v)).below (bel1 _)
   have HSW : Hid (Srt lo c n g l w (((((((((((wr.setCell ⟨g, p * 5, none⟩ (.int .i64 v.s)).setCell ⟨g, p * 5 + 1, none⟩ (.slice v.A v.n v.c)).setCell ⟨g, p * 5 + 2, none⟩ (.bool v.K.s)).setCell ⟨g, p * 5 + 3, none⟩ (.slice v.K.A v.K.n v.K.c)).setCell ⟨g, p * 5 + 4, none⟩ (.slice v.K.B v.K.m v.K.d)).drew).setCell ⟨g, q * 5, none⟩ (.int .i64 u.s)).setCell ⟨g, q * 5 + 1, none⟩ (.slice u.A u.n u.c)).setCell ⟨g, q * 5 + 2, none⟩ (.bool u.K.s)).setCell ⟨g, q * 5 + 3, none⟩ (.slice u.K.A u.K.n u.K.c)).setCell ⟨g, q * 5 + 4, none⟩ (.slice u.K.B u.K.m u.K.d))) := by
    obtain ⟨h1, rfl⟩ := List.getElem?_eq_some_iff.1 hu
    obtain ⟨h2, rfl⟩ := List.getElem?_eq_some_iff.1 hv
    exact ⟨⟨_, (List.set_set_perm h1 h2).trans hp, ho1.set⟩, (hg.trans ((putC_grown wr g (p * 5) _).trans (grown_row (bel1 _) _))).trans (putC_grown _ g (q * 5) _)⟩
   obtain ⟨g', eg, _, _, hc⟩ := ho.mem (by omega)
   injection eg with eg
   injection eg with eg _ _
   subst eg
   obtain ⟨u0, u1, u2, u3, u4⟩ := hc _ _ hu
   obtain ⟨v0, v1, v2, v3, v4⟩ := hc _ _ hv
   obtain ⟨g', eg, _, _, hc1⟩ := ho1.mem (by omega)
   injection eg with eg
   injection eg with eg _ _
   subst eg
   obtain ⟨x0, x1, x2, x3, x4⟩ := hc1 _ _ hx
   have t0 := ho.thaw (p * 5)
   have t1 := ho.thaw (p * 5 + 1)
   have t2 := ho.thaw (p * 5 + 2)
   have t3 := ho.thaw (p * 5 + 3)
   have t4 := ho.thaw (p * 5 + 4)
   have s0 := ho1.thaw (q * 5)
   have s1 := ho1.thaw (q * 5 + 1)
   have s2 := ho1.thaw (q * 5 + 2)
   have s3 := ho1.thaw (q * 5 + 3)
   have s4 := ho1.thaw (q * 5 + 4)
   clear hc hc1 hu hv hx hp ho ho1 hg
   have p0 : (0 : Int) ≤ (p : Int) := by omega
   have p1 : (p : Int) < (n : Int) := by omega
   have q0 : (0 : Int) ≤ (q : Int) := by omega
   have q1 : (q : Int) < (n : Int) := by omega
   have wp : IntKind.i64.wrap ((a : Int) + (i : Int)) = (p : Int) := by rw [IntKind.wrap_i64] <;> omega
   have wq : IntKind.i64.wrap ((b : Int) + (i : Int)) = (q : Int) := by rw [IntKind.wrap_i64] <;> omega
   clear hpe hqe
   go_wp2_with fail
   refine wp_region_held_drew (S := fun _ => True) (by kernel_rfl) ?_ (fun hHeld => ?_)
   · exact True.intro
   refine tk (i := 0) (h := ?_)
   try simp only [zR]
   refine tk (i := 1) (h := ?_)
   try simp only [zR]
   refine tk (i := 2) (h := ?_)
   try simp only [zR]
   refine tk (i := 3) (h := ?_)
   try simp only [zR]
   refine tk (i := 4) (h := ?_)
   try simp only [zR]
   refine tk (i := 5) (h := ?_)
   try simp only [zR]
   refine tk (i := 6) (h := ?_)
   try simp only [zR]
   refine tk (i := 7) (h := ?_)
   try simp only [zR]
   refine tk (i := 8) (h := ?_)
   try simp only [zR]
   refine tk (i := 9) (h := ?_)
   try simp only [zR]
   refine tk (i := 10) (h := ?_)
   try simp only [zR]
   refine tk (i := 11) (h := ?_)
   try simp only [zR]
   refine tk (i := 12) (h := ?_)
   try simp only [zR]
   refine tk (i := 14) (h := ?_)
   try simp only [zR]
   refine tk (i := 15) (h := ?_)
   try simp only [zR]
   refine tk (i := 16) (h := ?_)
   try simp only [zR]
   refine tk (i := 17) (h := ?_)
   try simp only [zR]
   refine tk (i := 18) (h := ?_)
   try simp only [zR]
   refine tr [13, 19] ?_
   refine tc (h := fun K hK => ?_) (hs := tc (h := fun K hK => ?_) (hs := tn))
   ·
    skip
    try go_simp
    try go_wp2_with fail
    refine hK.out _ _ ?_ (fun hHeld => ?_)
    · exact True.intro
    clear hK K
    try simp only [zR]
    refine tr [19] ?_
    refine tc (h := fun K hK => ?_) (hs := tn)
    try go_simp
    try go_wp2_with fail
    refine hK.out _ _ ?_ (fun hHeld => ?_)
    · exact True.intro
    clear hK K
    try simp only [zR]
    refine tk (i := 20) (h := ?_)
    try simp only [zR]
    refine tr [21] ?_
    refine tc (h := fun K hK => ?_) (hs := tn)
    try go_simp
    try go_wp2_with fail
    refine hK.out _ _ ?_ (fun hHeld => ?_)
    · exact True.intro
    clear hK K
    try simp only [zR]
    clear u0 u1 u2 u3 u4 v0 v1 v2 v3 v4 t0 t1 t2 t3 t4 HS
    generalize ((((((wr.setCell ⟨g, p * 5, none⟩ (.int .i64 v.s)).setCell ⟨g, p * 5 + 1, none⟩ (.slice v.A v.n v.c)).setCell ⟨g, p * 5 + 2, none⟩ (.bool v.K.s)).setCell ⟨g, p * 5 + 3, none⟩ (.slice v.K.A v.K.n v.K.c)).setCell ⟨g, p * 5 + 4, none⟩ (.slice v.K.B v.K.m v.K.d)).drew) = W1 at *
    refine tk (i := 22) (h := ?_)
    try simp only [zR]
    refine tr [23] ?_
    refine tc (h := fun K hK => ?_) (hs := tn)
    try go_simp
    try go_wp2_with fail
    refine hK.out _ _ ?_ (fun hHeld => ?_)
    · exact True.intro
    clear hK K
    try simp only [zR]
    refine wpAnyH_done (by kernel_rfl) ?_ _
    go_wp2
    go_roundw
    case rel => exact ⟨i + 1, by omega, by go_num, HSW⟩
    case measure => simp [intOf]; omega
   ·
    skip
    try go_simp
    try go_wp2_with fail
    refine hK.out _ _ ?_ (fun hHeld => ?_)
    · exact True.intro
    clear hK K
    try simp only [zR]
    refine tr [13] ?_
    refine tc (h := fun K hK => ?_) (hs := tn)
    try go_simp
    try go_wp2_with fail
    refine hK.out _ _ ?_ (fun hHeld => ?_)
    · exact True.intro
    clear hK K
    try simp only [zR]
    refine tk (i := 20) (h := ?_)
    try simp only [zR]
    refine tr [21] ?_
    refine tc (h := fun K hK => ?_) (hs := tn)
    try go_simp
    try go_wp2_with fail
    refine hK.out _ _ ?_ (fun hHeld => ?_)
    · exact True.intro
    clear hK K
    try simp only [zR]
    clear u0 u1 u2 u3 u4 v0 v1 v2 v3 v4 t0 t1 t2 t3 t4 HS
    generalize ((((((wr.setCell ⟨g, p * 5, none⟩ (.int .i64 v.s)).setCell ⟨g, p * 5 + 1, none⟩ (.slice v.A v.n v.c)).setCell ⟨g, p * 5 + 2, none⟩ (.bool v.K.s)).setCell ⟨g, p * 5 + 3, none⟩ (.slice v.K.A v.K.n v.K.c)).setCell ⟨g, p * 5 + 4, none⟩ (.slice v.K.B v.K.m v.K.d)).drew) = W1 at *
    refine tk (i := 22) (h := ?_)
    try simp only [zR]
    refine tr [23] ?_
    refine tc (h := fun K hK => ?_) (hs := tn)
    try go_simp
    try go_wp2_with fail
    refine hK.out _ _ ?_ (fun hHeld => ?_)
    · exact True.intro
    clear hK K
    try simp only [zR]
    refine wpAnyH_done (by kernel_rfl) ?_ _
    go_wp2
    go_roundw
    case rel => exact ⟨i + 1, by omega, by go_num, HSW⟩
    case measure => simp [intOf]; omega
  ·
   have i1 : ¬ (i : Int) < (k : Int) := by omega
   go_wp2
   refine bodyPost_end (results_none rfl _ _ _) rfl ?_
   exact ⟨rfl, HS.out⟩
end Go.Proofs.YtgffkaconhonlaaGreat
