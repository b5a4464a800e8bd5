/-
  Two neighbouring ranges merged, one of them of one sum.
-/
import Derived.Test.YtgffkaconhonlaaGreatWSrtC
import Derived.Test.YtgffkaconhonlaaGreatWRgn
namespace Go.Proofs.YtgffkaconhonlaaGreat
set_option maxRecDepth 20000
open Go.RowKit
set_option linter.unusedVariables false
set_option maxHeartbeats 12800000 in
theorem symMerge_one (lo c n g : Nat) (hn : n ≤ 1000) (a m b : Nat) (l : List Cv) (w : World) (am : a < m) (mb : m < b) (bn : b ≤ n) (h : OwnC w lo (some ⟨g, 0, none⟩) c n l) (h1 : m = a + 1) :
  Calls Tryz.prog 116 #[.slice (some ⟨g, 0, none⟩) n c, .int .i64 (a : Int), .int .i64 (m : Int), .int .i64 (b : Int), .func (.func 72) #[] #[]] w fun e w' => e = .returned (.tuple #[]) ∧ Srt lo c n g l w w' := by
 have HS := Lib.hid (Srt.start h)
 have a0 : (0 : Int) ≤ (a : Int) := by omega
 have m0 : (0 : Int) ≤ (m : Int) := by omega
 have b0 : (0 : Int) ≤ (b : Int) := by omega
 have b9 : (b : Int) ≤ 1000 := by omega
 have a9 : (a : Int) ≤ 1000 := by omega
 have m9 : (m : Int) ≤ 1000 := by omega
 have n9 : (n : Int) ≤ 1000 := by omega
 have an : (a : Int) < (n : Int) := by omega
 have mn : (m : Int) < (n : Int) := by omega
 clear h
 have he : (m : Int) - (a : Int) = 1 := by omega
 have hb1 : ((m : Int) - (a : Int) == 1) = true := by rw [beq_iff_eq]; omega
 have H1 := Lib.hid h1
 clear h1
 go_enter Tryz.func116, Tryz.ntmps116
 go_wp2
 go_loopw [10, 11] (fun iv jv wr => ∃ i j : Nat, m ≤ i ∧ i ≤ j ∧ j ≤ b ∧ iv = .int .i64 i ∧ jv = .int .i64 j ∧ Hid (Srt lo c n g l w wr)) (fun iv jv _ => (intOf jv).toNat - (intOf iv).toNat)
 case atStart => exact ⟨m, b, by omega, by omega, by omega, rfl, rfl, HS⟩
 case round =>
  clear HS
  obtain ⟨i, j, hi, hij, hj, rfl, rfl, HS⟩ := hrel
  have i0 : (0 : Int) ≤ (i : Int) := by omega
  have j0 : (0 : Int) ≤ (j : Int) := by omega
  have j9 : (j : Int) ≤ 1000 := by omega
  have i9 : (i : Int) ≤ 1000 := by omega
  by_cases hlt : i < j
  ·
   have i1 : (i : Int) < (j : Int) := by omega
   go_wp2_with fail
   have hP1 : (i : Int) ≤ ((i : Int) + (j : Int)) / 2 := by omega
   have hP2 : ((i : Int) + (j : Int)) / 2 < (j : Int) := by omega
   generalize ((i : Int) + (j : Int)) / 2 = P at *
   obtain ⟨p, rfl⟩ := Int.eq_ofNat_of_zero_le (show 0 ≤ P by omega)
   have p0 : (0 : Int) ≤ (p : Int) := by omega
   have p1 : (p : Int) < (n : Int) := by omega
   have p2 : p < n := by omega
   have a2 : a < n := by omega
   obtain ⟨⟨l1, hp, ho⟩, hg⟩ := HS.out
   obtain ⟨u, hu⟩ : ∃ u, l1[p]? = some u := ⟨_, List.getElem?_eq_getElem (by rw [ho.len]; omega)⟩
   obtain ⟨v, hv⟩ : ∃ v, l1[a]? = some v := ⟨_, List.getElem?_eq_getElem (by rw [ho.len]; omega)⟩
   obtain ⟨g', eg, _, hgw, hc⟩ := ho.mem (by omega)
   injection eg with eg
   injection eg with eg _ _
   subst eg
   obtain ⟨u0, u1, u2, u3, u4⟩ := hc _ _ hu
   obtain ⟨v0, v1, v2, v3, v4⟩ := hc _ _ hv
   have HGW := Lib.hid hgw
   clear hc hu hv hp ho hg hgw
   refine wp_region_held_drew (S := fun w' => w'.cell? ⟨g, p * 5, none⟩ = some (.int .i64 u.s) ∧ w'.cell? ⟨g, p * 5 + 1, none⟩ = some (.slice u.A u.n u.c) ∧ w'.cell? ⟨g, p * 5 + 2, none⟩ = some (.bool u.K.s) ∧ w'.cell? ⟨g, p * 5 + 3, none⟩ = some (.slice u.K.A u.K.n u.K.c) ∧ w'.cell? ⟨g, p * 5 + 4, none⟩ = some (.slice u.K.B u.K.m u.K.d) ∧ w'.cell? ⟨g, a * 5, none⟩ = some (.int .i64 v.s) ∧ w'.cell? ⟨g, a * 5 + 1, none⟩ = some (.slice v.A v.n v.c) ∧ w'.cell? ⟨g, a * 5 + 2, none⟩ = some (.bool v.K.s) ∧ w'.cell? ⟨g, a * 5 + 3, none⟩ = some (.slice v.K.A v.K.n v.K.c) ∧ w'.cell? ⟨g, a * 5 + 4, none⟩ = some (.slice v.K.B v.K.m v.K.d)) (by kernel_rfl) ?_ (fun hHeld => ?_)
   ·
    (try dsimp only)
    go_keep
   refine tk (i := 0) (h := ?_)
   try simp only [zR]
   refine tk (i := 1) (h := ?_)
   try simp only [zR]
   refine tk (i := 2) (h := ?_)
   try simp only [zR]
   refine tk (i := 3) (h := ?_)
   try simp only [zR]
   refine tk (i := 4) (h := ?_)
   try simp only [zR]
   refine tk (i := 5) (h := ?_)
   try simp only [zR]
   refine tk (i := 6) (h := ?_)
   try simp only [zR]
   refine tk (i := 7) (h := ?_)
   try simp only [zR]
   refine tk (i := 8) (h := ?_)
   try simp only [zR]
   refine tr [9] ?_
   refine tc (h := fun K hK => ?_) (hs := tn)
   try go_simp
   go_at_call 72
   refine (lit_c _ _ _).mono ?_
   rintro e w2 ⟨kk, rfl, hk1, hk2, hb⟩
   have hbk := hb.block g (by show g < wr.heap.size; exact HGW.out)
   replace u0 := (World.cell?_of_block hbk).trans u0
   replace u1 := (World.cell?_of_block hbk).trans u1
   replace u2 := (World.cell?_of_block hbk).trans u2
   replace u3 := (World.cell?_of_block hbk).trans u3
   replace u4 := (World.cell?_of_block hbk).trans u4
   replace v0 := (World.cell?_of_block hbk).trans v0
   replace v1 := (World.cell?_of_block hbk).trans v1
   replace v2 := (World.cell?_of_block hbk).trans v2
   replace v3 := (World.cell?_of_block hbk).trans v3
   replace v4 := (World.cell?_of_block hbk).trans v4
   have HS2 := Lib.hid (HS.out.below ((bel1 wr).trans hb))
   clear hb hbk
   try go_wp2_with fail
   refine hK.out _ _ ?_ (fun hHeld2 => ?_)
   ·
    (try dsimp only)
    go_keep
   clear hK K hHeld
   have hHeld := hHeld2
   clear hHeld2
   try simp only [zR]
   refine tk (i := 10) (h := ?_)
   try simp only [zR]
   refine wpAnyH_done (by kernel_rfl) ?_ _
   clear hHeld u0 u1 u2 u3 u4 v0 v1 v2 v3 v4 HS
   by_cases hk : kk < 0
   ·
    go_wp2
    go_roundw
    case rel => exact ⟨p + 1, j, by omega, by omega, by omega, by go_num, rfl, HS2⟩
    case measure => simp [intOf]; omega
   ·
    go_wp2
    go_roundw
    case rel => exact ⟨i, p, by omega, by omega, by omega, rfl, rfl, HS2⟩
    case measure => simp [intOf]; omega
  ·
   have i1 : ¬ (i : Int) < (j : Int) := by omega
   go_wp2
   go_loopw [13] (fun kv wr => ∃ k : Nat, a ≤ k ∧ k ≤ i ∧ kv = .int .i64 k ∧ Hid (Srt lo c n g l w wr)) (fun kv _ => i - (intOf kv).toNat)
   case atStart => exact ⟨a, by omega, by omega, rfl, HS⟩
   case round =>
    clear HS
    obtain ⟨p, hk1, hk2, rfl, HS⟩ := hrel
    have p0 : (0 : Int) ≤ (p : Int) := by omega
    have p9 : (p : Int) ≤ 1000 := by omega
    by_cases hlk : p + 1 < i
    ·
     have k1 : (p : Int) < (i : Int) - 1 := by omega
     obtain ⟨q, hqe⟩ : ∃ q, q = p + 1 := ⟨_, rfl⟩
     have q0 : (0 : Int) ≤ (q : Int) := by omega
     have q1 : (q : Int) < (n : Int) := by omega
     have p1 : (p : Int) < (n : Int) := by omega
     have wq : IntKind.i64.wrap ((p : Int) + 1) = (q : Int) := by rw [IntKind.wrap_i64] <;> omega
     have HQ := Lib.hid hqe
     have hql : q < n := by omega
     have hpl : p < n := by omega
     clear hqe
     go_wp2_with fail
     obtain ⟨⟨l1, hp, ho⟩, hg⟩ := HS.out
     obtain ⟨u, hu⟩ : ∃ u, l1[p]? = some u := ⟨_, List.getElem?_eq_getElem (by rw [ho.len]; omega)⟩
     obtain ⟨v, hv⟩ : ∃ v, l1[q]? = some v := ⟨_, List.getElem?_eq_getElem (by rw [ho.len]; omega)⟩
     obtain ⟨x, hx⟩ : ∃ x, (l1.set p v)[q]? = some x := ⟨_, List.getElem?_eq_getElem (by rw [List.length_set, ho.len]; omega)⟩
     have ho1 : OwnC ((((((wr.setCell ⟨g, p * 5, none⟩ (.int .i64 v.s)).setCell ⟨g, p * 5 + 1, none⟩ (.slice v.A v.n v.c)).setCell ⟨g, p * 5 + 2, none⟩ (.bool v.K.s)).setCell ⟨g, p * 5 + 3, none⟩ (.slice v.K.A v.K.n v.K.c)).setCell ⟨g, p * 5 + 4, none⟩ (.slice v.K.B v.K.m v.K.d)).drew) lo (some ⟨g, 0, none⟩) c n (l1.set p v) := (ho.set (j := p) (t := v)).below (bel1 _)
     have HSW : Hid (Srt lo c n g l w (((((((((((wr.setCell ⟨g, p * 5, none⟩ (.int .i64 v.s)).setCell ⟨g, p * 5 + 1, none⟩ (.slice v.A v.n v.c)).setCell ⟨g, p * 5 + 2, none⟩ (.bool v.K.s)).setCell ⟨g, p * 5 + 3, none⟩ (.slice v.K.A v.K.n v.K.c)).setCell ⟨g, p * 5 + 4, none⟩ (.slice v.K.B v.K.m v.K.d)).drew).setCell ⟨g, q * 5, none⟩ (.int .i64 u.s)).setCell ⟨g, q * 5 + 1, none⟩ (.slice u.A u.n u.c)).setCell ⟨g, q * 5 + 2, none⟩ (.bool u.K.s)).setCell ⟨g, q * 5 + 3, none⟩ (.slice u.K.A u.K.n u.K.c)).setCell ⟨g, q * 5 + 4, none⟩ (.slice u.K.B u.K.m u.K.d))) := by
      obtain ⟨h1, rfl⟩ := List.getElem?_eq_some_iff.1 hu
      obtain ⟨h2, rfl⟩ := List.getElem?_eq_some_iff.1 hv
      exact ⟨⟨_, (List.set_set_perm h1 h2).trans hp, ho1.set⟩, (hg.trans ((putC_grown wr g (p * 5) _).trans (grown_row (bel1 _) _))).trans (putC_grown _ g (q * 5) _)⟩
     obtain ⟨g', eg, _, _, hc⟩ := ho.mem (by omega)
     injection eg with eg
     injection eg with eg _ _
     subst eg
     obtain ⟨u0, u1, u2, u3, u4⟩ := hc _ _ hu
     obtain ⟨v0, v1, v2, v3, v4⟩ := hc _ _ hv
     obtain ⟨g', eg, _, _, hc1⟩ := ho1.mem (by omega)
     injection eg with eg
     injection eg with eg _ _
     subst eg
     obtain ⟨x0, x1, x2, x3, x4⟩ := hc1 _ _ hx
     have t0 := ho.thaw (p * 5)
     have t1 := ho.thaw (p * 5 + 1)
     have t2 := ho.thaw (p * 5 + 2)
     have t3 := ho.thaw (p * 5 + 3)
     have t4 := ho.thaw (p * 5 + 4)
     have s0 := ho1.thaw (q * 5)
     have s1 := ho1.thaw (q * 5 + 1)
     have s2 := ho1.thaw (q * 5 + 2)
     have s3 := ho1.thaw (q * 5 + 3)
     have s4 := ho1.thaw (q * 5 + 4)
     clear hc hc1 hu hv hx hp ho ho1 hg
     refine wp_region_held_drew (S := fun _ => True) (by kernel_rfl) ?_ (fun hHeld => ?_)
     · exact True.intro
     refine tk (i := 0) (h := ?_)
     try simp only [zR]
     refine tk (i := 1) (h := ?_)
     try simp only [zR]
     refine tk (i := 2) (h := ?_)
     try simp only [zR]
     refine tk (i := 3) (h := ?_)
     try simp only [zR]
     refine tk (i := 4) (h := ?_)
     try simp only [zR]
     refine tk (i := 5) (h := ?_)
     try simp only [zR]
     refine tk (i := 6) (h := ?_)
     try simp only [zR]
     refine tk (i := 7) (h := ?_)
     try simp only [zR]
     refine tk (i := 8) (h := ?_)
     try simp only [zR]
     refine tk (i := 10) (h := ?_)
     try simp only [zR]
     refine tk (i := 11) (h := ?_)
     try simp only [zR]
     refine tk (i := 12) (h := ?_)
     try simp only [zR]
     refine tr [9, 13] ?_
     refine tc (h := fun K hK => ?_) (hs := tc (h := fun K hK => ?_) (hs := tn))
     ·
      skip
      try go_simp
      try go_wp2_with fail
      refine hK.out _ _ ?_ (fun hHeld => ?_)
      · exact True.intro
      clear hK K
      try simp only [zR]
      refine tr [13] ?_
      refine tc (h := fun K hK => ?_) (hs := tn)
      try go_simp
      try go_wp2_with fail
      refine hK.out _ _ ?_ (fun hHeld => ?_)
      · exact True.intro
      clear hK K
      try simp only [zR]
      refine tk (i := 14) (h := ?_)
      try simp only [zR]
      refine tr [15] ?_
      refine tc (h := fun K hK => ?_) (hs := tn)
      try go_simp
      try go_wp2_with fail
      refine hK.out _ _ ?_ (fun hHeld => ?_)
      · exact True.intro
      clear hK K
      try simp only [zR]
      clear u0 u1 u2 u3 u4 v0 v1 v2 v3 v4 t0 t1 t2 t3 t4 HS
      generalize ((((((wr.setCell ⟨g, p * 5, none⟩ (.int .i64 v.s)).setCell ⟨g, p * 5 + 1, none⟩ (.slice v.A v.n v.c)).setCell ⟨g, p * 5 + 2, none⟩ (.bool v.K.s)).setCell ⟨g, p * 5 + 3, none⟩ (.slice v.K.A v.K.n v.K.c)).setCell ⟨g, p * 5 + 4, none⟩ (.slice v.K.B v.K.m v.K.d)).drew) = W1 at *
      refine tk (i := 16) (h := ?_)
      try simp only [zR]
      refine tr [17] ?_
      refine tc (h := fun K hK => ?_) (hs := tn)
      try go_simp
      try go_wp2_with fail
      refine hK.out _ _ ?_ (fun hHeld => ?_)
      · exact True.intro
      clear hK K
      try simp only [zR]
      refine wpAnyH_done (by kernel_rfl) ?_ _
      go_wp2
      go_roundw
      case rel => exact ⟨q, by have := HQ.out; omega, by have := HQ.out; omega, by go_num, HSW⟩
      case measure => have := HQ.out; simp [intOf]; omega
     ·
      skip
      try go_simp
      try go_wp2_with fail
      refine hK.out _ _ ?_ (fun hHeld => ?_)
      · exact True.intro
      clear hK K
      try simp only [zR]
      refine tr [9] ?_
      refine tc (h := fun K hK => ?_) (hs := tn)
      try go_simp
      try go_wp2_with fail
      refine hK.out _ _ ?_ (fun hHeld => ?_)
      · exact True.intro
      clear hK K
      try simp only [zR]
      refine tk (i := 14) (h := ?_)
      try simp only [zR]
      refine tr [15] ?_
      refine tc (h := fun K hK => ?_) (hs := tn)
      try go_simp
      try go_wp2_with fail
      refine hK.out _ _ ?_ (fun hHeld => ?_)
      · exact True.intro
      clear hK K
      try simp only [zR]
      clear u0 u1 u2 u3 u4 v0 v1 v2 v3 v4 t0 t1 t2 t3 t4 HS
      generalize ((((((wr.setCell ⟨g, p * 5, none⟩ (.int .i64 v.s)).setCell ⟨g, p * 5 + 1, none⟩ (.slice v.A v.n v.c)).setCell ⟨g, p * 5 + 2, none⟩ (.bool v.K.s)).setCell ⟨g, p * 5 + 3, none⟩ (.slice v.K.A v.K.n v.K.c)).setCell ⟨g, p * 5 + 4, none⟩ (.slice v.K.B v.K.m v.K.d)).drew) = W1 at *
      refine tk (i := 16) (h := ?_)
      try simp only [zR]
      refine tr [17] ?_
      refine tc (h := fun K hK => ?_) (hs := tn)
      try go_simp
      try go_wp2_with fail
      refine hK.out _ _ ?_ (fun hHeld => ?_)
      · exact True.intro
      clear hK K
      try simp only [zR]
      refine wpAnyH_done (by kernel_rfl) ?_ _
      go_wp2
      go_roundw
      case rel => exact ⟨q, by have := HQ.out; omega, by have := HQ.out; omega, by go_num, HSW⟩
      case measure => have := HQ.out; simp [intOf]; omega
    ·
     have k1 : ¬ (p : Int) < (i : Int) - 1 := by omega
     go_wp2
     refine bodyPost_ret (results_none rfl _ _ _) rfl ?_
     exact ⟨rfl, HS.out⟩
set_option maxHeartbeats 12800000 in
theorem symMerge_two (lo c n g : Nat) (hn : n ≤ 1000) (a m b : Nat) (l : List Cv) (w : World) (am : a < m) (mb : m < b) (bn : b ≤ n) (h : OwnC w lo (some ⟨g, 0, none⟩) c n l) (h1 : m ≠ a + 1) (h2 : b = m + 1) :
  Calls Tryz.prog 116 #[.slice (some ⟨g, 0, none⟩) n c, .int .i64 (a : Int), .int .i64 (m : Int), .int .i64 (b : Int), .func (.func 72) #[] #[]] w fun e w' => e = .returned (.tuple #[]) ∧ Srt lo c n g l w w' := by
 have HS := Lib.hid (Srt.start h)
 have a0 : (0 : Int) ≤ (a : Int) := by omega
 have m0 : (0 : Int) ≤ (m : Int) := by omega
 have b0 : (0 : Int) ≤ (b : Int) := by omega
 have b9 : (b : Int) ≤ 1000 := by omega
 have a9 : (a : Int) ≤ 1000 := by omega
 have m9 : (m : Int) ≤ 1000 := by omega
 have n9 : (n : Int) ≤ 1000 := by omega
 have an : (a : Int) < (n : Int) := by omega
 have mn : (m : Int) < (n : Int) := by omega
 clear h
 have he : ¬ (m : Int) - (a : Int) = 1 := by omega
 have hb1 : ((m : Int) - (a : Int) == 1) = false := by rw [beq_eq_false_iff_ne]; omega
 have he2 : (b : Int) - (m : Int) = 1 := by omega
 have hb2 : ((b : Int) - (m : Int) == 1) = true := by rw [beq_iff_eq]; omega
 have H1 := Lib.hid h1
 have H2 := Lib.hid h2
 clear h1 h2
 go_enter Tryz.func116, Tryz.ntmps116
 go_wp2
 go_loopw [14, 15] (fun iv jv wr => ∃ i j : Nat, a ≤ i ∧ i ≤ j ∧ j ≤ m ∧ iv = .int .i64 i ∧ jv = .int .i64 j ∧ Hid (Srt lo c n g l w wr)) (fun iv jv _ => (intOf jv).toNat - (intOf iv).toNat)
 case atStart => exact ⟨a, m, by omega, by omega, by omega, rfl, rfl, HS⟩
 case round =>
  clear HS
  obtain ⟨i, j, hi, hij, hj, rfl, rfl, HS⟩ := hrel
  have i0 : (0 : Int) ≤ (i : Int) := by omega
  have j0 : (0 : Int) ≤ (j : Int) := by omega
  have j9 : (j : Int) ≤ 1000 := by omega
  have i9 : (i : Int) ≤ 1000 := by omega
  by_cases hlt : i < j
  ·
   have i1 : (i : Int) < (j : Int) := by omega
   go_wp2_with fail
   have hP1 : (i : Int) ≤ ((i : Int) + (j : Int)) / 2 := by omega
   have hP2 : ((i : Int) + (j : Int)) / 2 < (j : Int) := by omega
   generalize ((i : Int) + (j : Int)) / 2 = P at *
   obtain ⟨p, rfl⟩ := Int.eq_ofNat_of_zero_le (show 0 ≤ P by omega)
   have p0 : (0 : Int) ≤ (p : Int) := by omega
   have p1 : (p : Int) < (n : Int) := by omega
   have p2 : p < n := by omega
   have m2 : m < n := by omega
   obtain ⟨⟨l1, hp, ho⟩, hg⟩ := HS.out
   obtain ⟨u, hu⟩ : ∃ u, l1[m]? = some u := ⟨_, List.getElem?_eq_getElem (by rw [ho.len]; omega)⟩
   obtain ⟨v, hv⟩ : ∃ v, l1[p]? = some v := ⟨_, List.getElem?_eq_getElem (by rw [ho.len]; omega)⟩
   obtain ⟨g', eg, _, hgw, hc⟩ := ho.mem (by omega)
   injection eg with eg
   injection eg with eg _ _
   subst eg
   obtain ⟨u0, u1, u2, u3, u4⟩ := hc _ _ hu
   obtain ⟨v0, v1, v2, v3, v4⟩ := hc _ _ hv
   have HGW := Lib.hid hgw
   clear hc hu hv hp ho hg hgw
   refine wp_region_held_drew (S := fun w' => w'.cell? ⟨g, m * 5, none⟩ = some (.int .i64 u.s) ∧ w'.cell? ⟨g, m * 5 + 1, none⟩ = some (.slice u.A u.n u.c) ∧ w'.cell? ⟨g, m * 5 + 2, none⟩ = some (.bool u.K.s) ∧ w'.cell? ⟨g, m * 5 + 3, none⟩ = some (.slice u.K.A u.K.n u.K.c) ∧ w'.cell? ⟨g, m * 5 + 4, none⟩ = some (.slice u.K.B u.K.m u.K.d) ∧ w'.cell? ⟨g, p * 5, none⟩ = some (.int .i64 v.s) ∧ w'.cell? ⟨g, p * 5 + 1, none⟩ = some (.slice v.A v.n v.c) ∧ w'.cell? ⟨g, p * 5 + 2, none⟩ = some (.bool v.K.s) ∧ w'.cell? ⟨g, p * 5 + 3, none⟩ = some (.slice v.K.A v.K.n v.K.c) ∧ w'.cell? ⟨g, p * 5 + 4, none⟩ = some (.slice v.K.B v.K.m v.K.d)) (by kernel_rfl) ?_ (fun hHeld => ?_)
   ·
    (try dsimp only)
    go_keep
   refine tk (i := 0) (h := ?_)
   try simp only [zR]
   refine tk (i := 1) (h := ?_)
   try simp only [zR]
   refine tk (i := 2) (h := ?_)
   try simp only [zR]
   refine tk (i := 3) (h := ?_)
   try simp only [zR]
   refine tk (i := 4) (h := ?_)
   try simp only [zR]
   refine tk (i := 5) (h := ?_)
   try simp only [zR]
   refine tk (i := 6) (h := ?_)
   try simp only [zR]
   refine tk (i := 7) (h := ?_)
   try simp only [zR]
   refine tk (i := 8) (h := ?_)
   try simp only [zR]
   refine tr [9] ?_
   refine tc (h := fun K hK => ?_) (hs := tn)
   try go_simp
   go_at_call 72
   refine (lit_c _ _ _).mono ?_
   rintro e w2 ⟨kk, rfl, hk1, hk2, hb⟩
   have hbk := hb.block g (by show g < wr.heap.size; exact HGW.out)
   replace u0 := (World.cell?_of_block hbk).trans u0
   replace u1 := (World.cell?_of_block hbk).trans u1
   replace u2 := (World.cell?_of_block hbk).trans u2
   replace u3 := (World.cell?_of_block hbk).trans u3
   replace u4 := (World.cell?_of_block hbk).trans u4
   replace v0 := (World.cell?_of_block hbk).trans v0
   replace v1 := (World.cell?_of_block hbk).trans v1
   replace v2 := (World.cell?_of_block hbk).trans v2
   replace v3 := (World.cell?_of_block hbk).trans v3
   replace v4 := (World.cell?_of_block hbk).trans v4
   have HS2 := Lib.hid (HS.out.below ((bel1 wr).trans hb))
   clear hb hbk
   try go_wp2_with fail
   refine hK.out _ _ ?_ (fun hHeld2 => ?_)
   ·
    (try dsimp only)
    go_keep
   clear hK K hHeld
   have hHeld := hHeld2
   clear hHeld2
   try simp only [zR]
   refine tk (i := 10) (h := ?_)
   try simp only [zR]
   refine tk (i := 11) (h := ?_)
   try simp only [zR]
   refine wpAnyH_done (by kernel_rfl) ?_ _
   clear hHeld u0 u1 u2 u3 u4 v0 v1 v2 v3 v4 HS
   go_wp2
   all_goals go_roundw
   all_goals first
    | exact ⟨i, p, by omega, by omega, by omega, rfl, rfl, HS2⟩
    | exact ⟨p + 1, j, by omega, by omega, by omega, by go_num, rfl, HS2⟩
    | (simp [intOf]; omega)
  ·
   have i1 : ¬ (i : Int) < (j : Int) := by omega
   go_wp2
   go_loopw [17] (fun kv wr => ∃ k : Nat, i ≤ k ∧ k ≤ m ∧ kv = .int .i64 k ∧ Hid (Srt lo c n g l w wr)) (fun kv _ => (intOf kv).toNat)
   case atStart => exact ⟨m, by omega, by omega, rfl, HS⟩
   case round =>
    clear HS
    obtain ⟨p, hk1, hk2, rfl, HS⟩ := hrel
    have p0 : (0 : Int) ≤ (p : Int) := by omega
    have p9 : (p : Int) ≤ 1000 := by omega
    by_cases hlk : i < p
    ·
     have k1 : (i : Int) < (p : Int) := by omega
     obtain ⟨q, hqe⟩ : ∃ q, q + 1 = p := ⟨p - 1, by omega⟩
     have q0 : (0 : Int) ≤ (q : Int) := by omega
     have q1 : (q : Int) < (n : Int) := by omega
     have p1 : (p : Int) < (n : Int) := by omega
     have wq : IntKind.i64.wrap ((p : Int) - 1) = (q : Int) := by rw [IntKind.wrap_i64] <;> omega
     have HQ := Lib.hid hqe
     have hql : q < n := by omega
     have hpl : p < n := by omega
     clear hqe
     go_wp2_with fail
     obtain ⟨⟨l1, hp, ho⟩, hg⟩ := HS.out
     obtain ⟨u, hu⟩ : ∃ u, l1[p]? = some u := ⟨_, List.getElem?_eq_getElem (by rw [ho.len]; omega)⟩
     obtain ⟨v, hv⟩ : ∃ v, l1[q]? = some v := ⟨_, List.getElem?_eq_getElem (by rw [ho.len]; omega)⟩
     obtain ⟨x, hx⟩ : ∃ x, (l1.set p v)[q]? = some x := ⟨_, List.getElem?_eq_getElem (by rw [List.length_set, ho.len]; omega)⟩
     have ho1 : OwnC ((((((wr.setCell ⟨g, p * 5, none⟩ (.int .i64 v.s)).setCell ⟨g, p * 5 + 1, none⟩ (.slice v.A v.n v.c)).setCell ⟨g, p * 5 + 2, none⟩ (.bool v.K.s)).setCell ⟨g, p * 5 + 3, none⟩ (.slice v.K.A v.K.n v.K.c)).setCell ⟨g, p * 5 + 4, none⟩ (.slice v.K.B v.K.m v.K.d)).drew) lo (some ⟨g, 0, none⟩) c n (l1.set p v) := (ho.set (j := p) (t := v)).below (bel1 _)
     have HSW : Hid (Srt lo c n g l w (((((((((((wr.setCell ⟨g, p * 5, none⟩ (.int .i64 v.s)).setCell ⟨g, p * 5 + 1, none⟩ (.slice v.A v.n v.c)).setCell ⟨g, p * 5 + 2, none⟩ (.bool v.K.s)).setCell ⟨g, p * 5 + 3, none⟩ (.slice v.K.A v.K.n v.K.c)).setCell ⟨g, p * 5 + 4, none⟩ (.slice v.K.B v.K.m v.K.d)).drew).setCell ⟨g, q * 5, none⟩ (.int .i64 u.s)).setCell ⟨g, q * 5 + 1, none⟩ (.slice u.A u.n u.c)).setCell ⟨g, q * 5 + 2, none⟩ (.bool u.K.s)).setCell ⟨g, q * 5 + 3, none⟩ (.slice u.K.A u.K.n u.K.c)).setCell ⟨g, q * 5 + 4, none⟩ (.slice u.K.B u.K.m u.K.d))) := by
      obtain ⟨h1, rfl⟩ := List.getElem?_eq_some_iff.1 hu
      obtain ⟨h2, rfl⟩ := List.getElem?_eq_some_iff.1 hv
      exact ⟨⟨_, (List.set_set_perm h1 h2).trans hp, ho1.set⟩, (hg.trans ((putC_grown wr g (p * 5) _).trans (grown_row (bel1 _) _))).trans (putC_grown _ g (q * 5) _)⟩
     obtain ⟨g', eg, _, _, hc⟩ := ho.mem (by omega)
     injection eg with eg
     injection eg with eg _ _
     subst eg
     obtain ⟨u0, u1, u2, u3, u4⟩ := hc _ _ hu
     obtain ⟨v0, v1, v2, v3, v4⟩ := hc _ _ hv
     obtain ⟨g', eg, _, _, hc1⟩ := ho1.mem (by omega)
     injection eg with eg
     injection eg with eg _ _
     subst eg
     obtain ⟨x0, x1, x2, x3, x4⟩ := hc1 _ _ hx
     have t0 := ho.thaw (p * 5)
     have t1 := ho.thaw (p * 5 + 1)
     have t2 := ho.thaw (p * 5 + 2)
     have t3 := ho.thaw (p * 5 + 3)
     have t4 := ho.thaw (p * 5 + 4)
     have s0 := ho1.thaw (q * 5)
     have s1 := ho1.thaw (q * 5 + 1)
     have s2 := ho1.thaw (q * 5 + 2)
     have s3 := ho1.thaw (q * 5 + 3)
     have s4 := ho1.thaw (q * 5 + 4)
     clear hc hc1 hu hv hx hp ho ho1 hg
     refine wp_region_held_drew (S := fun _ => True) (by kernel_rfl) ?_ (fun hHeld => ?_)
     · exact True.intro
     refine tk (i := 0) (h := ?_)
     try simp only [zR]
     refine tk (i := 1) (h := ?_)
     try simp only [zR]
     refine tk (i := 2) (h := ?_)
     try simp only [zR]
     refine tk (i := 3) (h := ?_)
     try simp only [zR]
     refine tk (i := 4) (h := ?_)
     try simp only [zR]
     refine tk (i := 5) (h := ?_)
     try simp only [zR]
     refine tk (i := 6) (h := ?_)
     try simp only [zR]
     refine tk (i := 7) (h := ?_)
     try simp only [zR]
     refine tk (i := 8) (h := ?_)
     try simp only [zR]
     refine tk (i := 10) (h := ?_)
     try simp only [zR]
     refine tk (i := 11) (h := ?_)
     try simp only [zR]
     refine tk (i := 12) (h := ?_)
     try simp only [zR]
     refine tr [9, 13] ?_
     refine tc (h := fun K hK => ?_) (hs := tc (h := fun K hK => ?_) (hs := tn))
     ·
      skip
      try go_simp
      try go_wp2_with fail
      refine hK.out _ _ ?_ (fun hHeld => ?_)
      · exact True.intro
      clear hK K
      try simp only [zR]
      refine tr [13] ?_
      refine tc (h := fun K hK => ?_) (hs := tn)
      try go_simp
      try go_wp2_with fail
      refine hK.out _ _ ?_ (fun hHeld => ?_)
      · exact True.intro
      clear hK K
      try simp only [zR]
      refine tk (i := 14) (h := ?_)
      try simp only [zR]
      refine tr [15] ?_
      refine tc (h := fun K hK => ?_) (hs := tn)
      try go_simp
      try go_wp2_with fail
      refine hK.out _ _ ?_ (fun hHeld => ?_)
      · exact True.intro
      clear hK K
      try simp only [zR]
      clear u0 u1 u2 u3 u4 v0 v1 v2 v3 v4 t0 t1 t2 t3 t4 HS
      generalize ((((((wr.setCell ⟨g, p * 5, none⟩ (.int .i64 v.s)).setCell ⟨g, p * 5 + 1, none⟩ (.slice v.A v.n v.c)).setCell ⟨g, p * 5 + 2, none⟩ (.bool v.K.s)).setCell ⟨g, p * 5 + 3, none⟩ (.slice v.K.A v.K.n v.K.c)).setCell ⟨g, p * 5 + 4, none⟩ (.slice v.K.B v.K.m v.K.d)).drew) = W1 at *
      refine tk (i := 16) (h := ?_)
      try simp only [zR]
      refine tr [17] ?_
      refine tc (h := fun K hK => ?_) (hs := tn)
      try go_simp
      try go_wp2_with fail
      refine hK.out _ _ ?_ (fun hHeld => ?_)
      · exact True.intro
      clear hK K
      try simp only [zR]
      refine wpAnyH_done (by kernel_rfl) ?_ _
      go_wp2
      go_roundw
      case rel => exact ⟨q, by have := HQ.out; omega, by have := HQ.out; omega, by go_num, HSW⟩
      case measure => have := HQ.out; simp [intOf]; omega
     ·
      skip
      try go_simp
      try go_wp2_with fail
      refine hK.out _ _ ?_ (fun hHeld => ?_)
      · exact True.intro
      clear hK K
      try simp only [zR]
      refine tr [9] ?_
      refine tc (h := fun K hK => ?_) (hs := tn)
      try go_simp
      try go_wp2_with fail
      refine hK.out _ _ ?_ (fun hHeld => ?_)
      · exact True.intro
      clear hK K
      try simp only [zR]
      refine tk (i := 14) (h := ?_)
      try simp only [zR]
      refine tr [15] ?_
      refine tc (h := fun K hK => ?_) (hs := tn)
      try go_simp
      try go_wp2_with fail
      refine hK.out _ _ ?_ (fun hHeld => ?_)
      · exact True.intro
      clear hK K
      try simp only [zR]
      clear u0 u1 u2 u3 u4 v0 v1 v2 v3 v4 t0 t1 t2 t3 t4 HS
      generalize ((((((wr.setCell ⟨g, p * 5, none⟩ (.int .i64 v.s)).setCell ⟨g, p * 5 + 1, none⟩ (.slice v.A v.n v.c)).setCell ⟨g, p * 5 + 2, none⟩ (.bool v.K.s)).setCell ⟨g, p * 5 + 3, none⟩ (.slice v.K.A v.K.n v.K.c)).setCell ⟨g, p * 5 + 4, none⟩ (.slice v.K.B v.K.m v.K.d)).drew) = W1 at *
      refine tk (i := 16) (h := ?_)
      try simp only [zR]
      refine tr [17] ?_
      refine tc (h := fun K hK => ?_) (hs := tn)
      try go_simp
      try go_wp2_with fail
      refine hK.out _ _ ?_ (fun hHeld => ?_)
      · exact True.intro
      clear hK K
      try simp only [zR]
      refine wpAnyH_done (by kernel_rfl) ?_ _
      go_wp2
      go_roundw
      case rel => exact ⟨q, by have := HQ.out; omega, by have := HQ.out; omega, by go_num, HSW⟩
      case measure => have := HQ.out; simp [intOf]; omega
    ·
     have k1 : ¬ (i : Int) < (p : Int) := by omega
     go_wp2
     refine bodyPost_ret (results_none rfl _ _ _) rfl ?_
     exact ⟨rfl, HS.out⟩
end Go.Proofs.YtgffkaconhonlaaGreat
