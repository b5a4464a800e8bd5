/-
  Two neighbouring ranges of sums merged.
  The stable sort of sums: they are what they were, in some order.
-/
import Derived.Test.YtgffkaconhonlaaGreatWSrtE
import Derived.Deep.Cut
import Derived.Test.YtgffkaconhonlaaGreatWRgn
namespace Go.Proofs.YtgffkaconhonlaaGreat
set_option maxRecDepth 20000
open Go.RowKit
set_option linter.unusedVariables false
set_option maxHeartbeats 25600000 in
theorem symMerge_c (lo c n g : Nat) (hn : n ≤ 1000) : ∀ (f a m b : Nat) (l : List Cv) (w : World) (hf : b ≤ a + f) (am : a < m) (mb : m < b) (bn : b ≤ n) (h : OwnC w lo (some ⟨g, 0, none⟩) c n l),
  Calls Tryz.prog 116 #[.slice (some ⟨g, 0, none⟩) n c, .int .i64 (a : Int), .int .i64 (m : Int), .int .i64 (b : Int), .func (.func 72) #[] #[]] w fun e w' => e = .returned (.tuple #[]) ∧ Srt lo c n g l w w' := by
 intro f
 induction f with
 | zero => intro a m b l w hf am mb; omega
 | succ f ih =>
 intro a m b l w hf am mb bn h
 by_cases h1 : m = a + 1
 · exact symMerge_one lo c n g hn a m b l w am mb bn h h1
 by_cases h2 : b = m + 1
 · exact symMerge_two lo c n g hn a m b l w am mb bn h h1 h2
 have IH : Hid (∀ (a m b : Nat) (l : List Cv) (w : World) (hf : b ≤ a + f) (am : a < m) (mb : m < b) (bn : b ≤ n) (_ : b ≤ n) (h : OwnC w lo (some ⟨g, 0, none⟩) c n l), Calls Tryz.prog 116 #[.slice (some ⟨g, 0, none⟩) n c, .int .i64 (a : Int), .int .i64 (m : Int), .int .i64 (b : Int), .func (.func 72) #[] #[]] w fun e w' => e = .returned (.tuple #[]) ∧ Srt lo c n g l w w') := fun a m b l w hf am mb bn _ h => ih a m b l w hf am mb bn h
 clear ih
 have HS := Lib.hid (Srt.start h)
 have a0 : (0 : Int) ≤ (a : Int) := by omega
 have m0 : (0 : Int) ≤ (m : Int) := by omega
 have b0 : (0 : Int) ≤ (b : Int) := by omega
 have b9 : (b : Int) ≤ 1000 := by omega
 have a9 : (a : Int) ≤ 1000 := by omega
 have m9 : (m : Int) ≤ 1000 := by omega
 have n9 : (n : Int) ≤ 1000 := by omega
 have an : (a : Int) < (n : Int) := by omega
 have mn : (m : Int) < (n : Int) := by omega
 clear h
 have he : ¬ (m : Int) - (a : Int) = 1 := by omega
 have hb1 : ((m : Int) - (a : Int) == 1) = false := by rw [beq_eq_false_iff_ne]; omega
 have he2 : ¬ (b : Int) - (m : Int) = 1 := by omega
 have hb2 : ((b : Int) - (m : Int) == 1) = false := by rw [beq_eq_false_iff_ne]; omega
 go_enter Tryz.func116, Tryz.ntmps116
 go_upto_region 25 with fail
 have hd1 : (a : Int) < ((a : Int) + (b : Int)) / 2 := by omega
 have hd2 : ((a : Int) + (b : Int)) / 2 < (b : Int) := by omega
 have hd3 : 2 * (((a : Int) + (b : Int)) / 2) ≤ (a : Int) + (b : Int) := by omega
 have hd4 : (a : Int) + (b : Int) ≤ 2 * (((a : Int) + (b : Int)) / 2) + 1 := by omega
 generalize ((a : Int) + (b : Int)) / 2 = D at *
 obtain ⟨d, rfl⟩ := Int.eq_ofNat_of_zero_le (show 0 ≤ D by omega)
 have d0 : (0 : Int) ≤ (d : Int) := by omega
 have d9 : (d : Int) ≤ 1000 := by omega
 clear h1 h2
 by_cases hmd : d < m
 ·
  have hm1 : (d : Int) < (m : Int) := by omega
  go_wp2
  go_loopw [20, 21] (fun sv rv wr => ∃ s r : Nat, a ≤ s ∧ s ≤ r ∧ r ≤ m ∧ r ≤ d ∧ d + m ≤ s + b ∧ sv = .int .i64 s ∧ rv = .int .i64 r ∧ Hid (Srt lo c n g l w wr)) (fun sv rv _ => (intOf rv).toNat - (intOf sv).toNat)
  case atStart => exact ⟨(d + m - b), d, by omega, by omega, by omega, by omega, by omega, by go_num, rfl, HS⟩
  case round =>
   clear HS
   obtain ⟨s, r, hs1, hs2, hs3, hs4, hs5, rfl, rfl, HS⟩ := hrel
   have s0 : (0 : Int) ≤ (s : Int) := by omega
   have r0 : (0 : Int) ≤ (r : Int) := by omega
   have s9 : (s : Int) ≤ 1000 := by omega
   have r9 : (r : Int) ≤ 1000 := by omega
   by_cases hlt : s < r
   ·
    have i1 : (s : Int) < (r : Int) := by omega
    go_wp2_with fail
    have hP1 : (s : Int) ≤ ((s : Int) + (r : Int)) / 2 := by omega
    have hP2 : ((s : Int) + (r : Int)) / 2 < (r : Int) := by omega
    generalize ((s : Int) + (r : Int)) / 2 = P at *
    obtain ⟨p, rfl⟩ := Int.eq_ofNat_of_zero_le (show 0 ≤ P by omega)
    have p0 : (0 : Int) ≤ (p : Int) := by omega
    have p1 : (p : Int) < (n : Int) := by omega
    have p2 : p < n := by omega
    obtain ⟨q, hqe⟩ : ∃ q, q + p + 1 = d + m := ⟨d + m - p - 1, by omega⟩
    have q0 : (0 : Int) ≤ (q : Int) := by omega
    have q1 : (q : Int) < (n : Int) := by omega
    have q2 : q < n := by omega
    have wq : IntKind.i64.wrap ((d : Int) + (m : Int) - 1 - (p : Int)) = (q : Int) := by rw [IntKind.wrap_i64] <;> omega
    clear hqe
    obtain ⟨⟨l1, hp, ho⟩, hg⟩ := HS.out
    obtain ⟨u, hu⟩ : ∃ u, l1[q]? = some u := ⟨_, List.getElem?_eq_getElem (by rw [ho.len]; omega)⟩
    obtain ⟨v, hv⟩ : ∃ v, l1[p]? = some v := ⟨_, List.getElem?_eq_getElem (by rw [ho.len]; omega)⟩
    obtain ⟨g', eg, _, hgw, hc⟩ := ho.mem (by omega)
    injection eg with eg
    injection eg with eg _ _
    subst eg
    obtain ⟨u0, u1, u2, u3, u4⟩ := hc _ _ hu
    obtain ⟨v0, v1, v2, v3, v4⟩ := hc _ _ hv
    have HGW := Lib.hid hgw
    clear hc hu hv hp ho hg hgw
    refine wp_region_held_drew (S := fun w' => w'.cell? ⟨g, q * 5, none⟩ = some (.int .i64 u.s) ∧ w'.cell? ⟨g, q * 5 + 1, none⟩ = some (.slice u.A u.n u.c) ∧ w'.cell? ⟨g, q * 5 + 2, none⟩ = some (.bool u.K.s) ∧ w'.cell? ⟨g, q * 5 + 3, none⟩ = some (.slice u.K.A u.K.n u.K.c) ∧ w'.cell? ⟨g, q * 5 + 4, none⟩ = some (.slice u.K.B u.K.m u.K.d) ∧ w'.cell? ⟨g, p * 5, none⟩ = some (.int .i64 v.s) ∧ w'.cell? ⟨g, p * 5 + 1, none⟩ = some (.slice v.A v.n v.c) ∧ w'.cell? ⟨g, p * 5 + 2, none⟩ = some (.bool v.K.s) ∧ w'.cell? ⟨g, p * 5 + 3, none⟩ = some (.slice v.K.A v.K.n v.K.c) ∧ w'.cell? ⟨g, p * 5 + 4, none⟩ = some (.slice v.K.B v.K.m v.K.d)) (by kernel_rfl) ?_ (fun hHeld => ?_)
    ·
     (try dsimp only)
     go_keep
    refine tk (i := 0) (h := ?_)
    try simp only [zR]
    refine tk (i := 1) (h := ?_)
    try simp only [zR]
    refine tk (i := 2) (h := ?_)
    try simp only [zR]
    refine tk (i := 3) (h := ?_)
    try simp only [zR]
    refine tk (i := 4) (h := ?_)
    try simp only [zR]
    refine tk (i := 5) (h := ?_)
    try simp only [zR]
    refine tk (i := 6) (h := ?_)
    try simp only [zR]
    refine tk (i := 7) (h := ?_)
    try simp only [zR]
    refine tk (i := 8) (h := ?_)
    try simp only [zR]
    refine tk (i := 9) (h := ?_)
    try simp only [zR]
    refine tk (i := 10) (h := ?_)
    try simp only [zR]
    refine tr [11] ?_
    refine tc (h := fun K hK => ?_) (hs := tn)
    try go_simp
    go_at_call 72
    refine (lit_c _ _ _).mono ?_
    rintro e w2 ⟨kk, rfl, hk1, hk2, hb⟩
    have hbk := hb.block g (by show g < wr.heap.size; exact HGW.out)
    replace u0 := (World.cell?_of_block hbk).trans u0
    replace u1 := (World.cell?_of_block hbk).trans u1
    replace u2 := (World.cell?_of_block hbk).trans u2
    replace u3 := (World.cell?_of_block hbk).trans u3
    replace u4 := (World.cell?_of_block hbk).trans u4
    replace v0 := (World.cell?_of_block hbk).trans v0
    replace v1 := (World.cell?_of_block hbk).trans v1
    replace v2 := (World.cell?_of_block hbk).trans v2
    replace v3 := (World.cell?_of_block hbk).trans v3
    replace v4 := (World.cell?_of_block hbk).trans v4
    have HS2 := Lib.hid (HS.out.below ((bel1 wr).trans hb))
    clear hb hbk
    try go_wp2_with fail
    refine hK.out _ _ ?_ (fun hHeld2 => ?_)
    ·
     (try dsimp only)
     go_keep
    clear hK K hHeld
    have hHeld := hHeld2
    clear hHeld2
    try simp only [zR]
    refine tk (i := 12) (h := ?_)
    try simp only [zR]
    refine tk (i := 13) (h := ?_)
    try simp only [zR]
    refine wpAnyH_done (by kernel_rfl) ?_ _
    clear hHeld u0 u1 u2 u3 u4 v0 v1 v2 v3 v4 HS
    go_wp2
    all_goals go_roundw
    all_goals first
     | exact ⟨s, p, by omega, by omega, by omega, by omega, by omega, rfl, rfl, HS2⟩
     | exact ⟨p + 1, r, by omega, by omega, by omega, by omega, by omega, by go_num, rfl, HS2⟩
     | (simp [intOf]; omega)
   ·
    have i1 : ¬ (s : Int) < (r : Int) := by omega
    go_upto_region 38 with fail
    go_upto_region 39 with fail
    have he1 : (0 : Int) ≤ (d : Int) + (m : Int) - (s : Int) := by omega
    have he2 : (d : Int) + (m : Int) - (s : Int) ≤ (b : Int) := by omega
    have he3 : s + ((d : Int) + (m : Int) - (s : Int)).toNat = d + m := by omega
    generalize (d : Int) + (m : Int) - (s : Int) = E at *
    obtain ⟨e, rfl⟩ := Int.eq_ofNat_of_zero_le he1
    rw [Int.toNat_natCast] at he3
    have HE := Lib.hid he3
    clear he3
    go_upto_region 39 with fail
    go_cut [185] from 178 (fun bv wx => bv = .bool (decide (s < m ∧ m < e)) ∧ wr = wx)
    case first =>
     by_cases q1 : s < m
     ·
      have f1 : (s : Int) < (m : Int) := (by have := HE.out; omega)
      by_cases q2 : m < e
      ·
       have f2 : (m : Int) < (e : Int) := (by have := HE.out; omega)
       go_wp2
       go_meet
       exact ⟨by rw [decide_eq_true ⟨q1, q2⟩], rfl⟩
      ·
       have f2 : ¬ (m : Int) < (e : Int) := (by have := HE.out; omega)
       go_wp2
       go_meet
       exact ⟨by rw [decide_eq_false (fun h => q2 h.2)], rfl⟩
     ·
      have f1 : ¬ (s : Int) < (m : Int) := (by have := HE.out; omega)
      go_wp2
      go_meet
      exact ⟨by rw [decide_eq_false (fun h => q1 h.1)], rfl⟩
    case rest =>
     obtain ⟨rfl, rfl⟩ := hcut
     go_upto_if 185 with fail
     go_cut [] from 185 (fun wx => Hid (Srt lo c n g l w wx))
     case first =>
      by_cases q : s < m ∧ m < e
      ·
       rw [decide_eq_true q]
       obtain ⟨qa, qb⟩ := q
       obtain ⟨⟨l1, hp, ho⟩, hg⟩ := HS.out
       have HP := Lib.hid (And.intro hp (And.intro ho hg))
       clear hp ho hg
       go_wp2_with fail
       refine (rotate_c lo c n g (s : Int) (m : Int) (e : Int) l1 _ HP.out.2.1 (by have := HE.out; omega) (by have := HE.out; omega) (by have := HE.out; omega) (by have := HE.out; omega) hn).mono ?_
       rintro e w2 ⟨rfl, hs⟩
       have HS2 : Hid (Srt lo c n g l w w2) := ⟨by obtain ⟨⟨l2, h3, h4⟩, _⟩ := hs; exact ⟨l2, h3.trans HP.out.1, h4⟩, HP.out.2.2.trans hs.grown⟩
       clear hs
       go_wp2
       go_meet
       exact HS2
      ·
       rw [decide_eq_false q]
       go_wp2
       go_meet
       exact HS
     case rest =>
      clear HS
      have HS := hcut
      clear hcut
      generalize wc = wr at *
      go_upto_region 41 with fail
      go_cut [199] from 192 (fun bv wx => bv = .bool (decide (a < s ∧ s < d)) ∧ wr = wx)
      case first =>
       by_cases q1 : a < s
       ·
        have f1 : (a : Int) < (s : Int) := (by have := HE.out; omega)
        by_cases q2 : s < d
        ·
         have f2 : (s : Int) < (d : Int) := (by have := HE.out; omega)
         go_wp2
         go_meet
         exact ⟨by rw [decide_eq_true ⟨q1, q2⟩], rfl⟩
        ·
         have f2 : ¬ (s : Int) < (d : Int) := (by have := HE.out; omega)
         go_wp2
         go_meet
         exact ⟨by rw [decide_eq_false (fun h => q2 h.2)], rfl⟩
       ·
        have f1 : ¬ (a : Int) < (s : Int) := (by have := HE.out; omega)
        go_wp2
        go_meet
        exact ⟨by rw [decide_eq_false (fun h => q1 h.1)], rfl⟩
      case rest =>
       obtain ⟨rfl, rfl⟩ := hcut
       go_upto_if 199 with fail
       go_cut [] from 199 (fun wx => Hid (Srt lo c n g l w wx))
       case first =>
        by_cases q : a < s ∧ s < d
        ·
         rw [decide_eq_true q]
         obtain ⟨qa, qb⟩ := q
         obtain ⟨⟨l1, hp, ho⟩, hg⟩ := HS.out
         have HP := Lib.hid (And.intro hp (And.intro ho hg))
         clear hp ho hg
         go_wp2_with fail
         refine (IH.out a s d l1 _ (by have := HE.out; omega) (by have := HE.out; omega) (by have := HE.out; omega) (by have := HE.out; omega) (by have := HE.out; omega) HP.out.2.1).mono ?_
         rintro e w2 ⟨rfl, hs⟩
         have HS2 : Hid (Srt lo c n g l w w2) := ⟨by obtain ⟨⟨l2, h3, h4⟩, _⟩ := hs; exact ⟨l2, h3.trans HP.out.1, h4⟩, HP.out.2.2.trans hs.grown⟩
         clear hs
         go_wp2
         go_meet
         exact HS2
        ·
         rw [decide_eq_false q]
         go_wp2
         go_meet
         exact HS
       case rest =>
        clear HS
        have HS := hcut
        clear hcut
        generalize wc = wr at *
        go_upto_region 43 with fail
        go_cut [213] from 206 (fun bv wx => bv = .bool (decide (d < e ∧ e < b)) ∧ wr = wx)
        case first =>
         by_cases q1 : d < e
         ·
          have f1 : (d : Int) < (e : Int) := (by have := HE.out; omega)
          by_cases q2 : e < b
          ·
           have f2 : (e : Int) < (b : Int) := (by have := HE.out; omega)
           go_wp2
           go_meet
           exact ⟨by rw [decide_eq_true ⟨q1, q2⟩], rfl⟩
          ·
           have f2 : ¬ (e : Int) < (b : Int) := (by have := HE.out; omega)
           go_wp2
           go_meet
           exact ⟨by rw [decide_eq_false (fun h => q2 h.2)], rfl⟩
         ·
          have f1 : ¬ (d : Int) < (e : Int) := (by have := HE.out; omega)
          go_wp2
          go_meet
          exact ⟨by rw [decide_eq_false (fun h => q1 h.1)], rfl⟩
        case rest =>
         obtain ⟨rfl, rfl⟩ := hcut
         by_cases q : d < e ∧ e < b
         ·
          rw [decide_eq_true q]
          obtain ⟨qa, qb⟩ := q
          obtain ⟨⟨l1, hp, ho⟩, hg⟩ := HS.out
          have HP := Lib.hid (And.intro hp (And.intro ho hg))
          clear hp ho hg
          go_wp2_with fail
          refine (IH.out d e b l1 _ (by have := HE.out; omega) (by have := HE.out; omega) (by have := HE.out; omega) (by have := HE.out; omega) (by have := HE.out; omega) HP.out.2.1).mono ?_
          rintro ee w2 ⟨rfl, hs⟩
          have HS2 : Hid (Srt lo c n g l w w2) := ⟨by obtain ⟨⟨l2, h3, h4⟩, _⟩ := hs; exact ⟨l2, h3.trans HP.out.1, h4⟩, HP.out.2.2.trans hs.grown⟩
          clear hs
          go_wp2
          refine bodyPost_end (results_none rfl _ _ _) rfl ?_
          exact ⟨rfl, HS2.out⟩
         ·
          rw [decide_eq_false q]
          go_wp2
          refine bodyPost_end (results_none rfl _ _ _) rfl ?_
          exact ⟨rfl, HS.out⟩
 ·
  have hm1 : ¬ (d : Int) < (m : Int) := by omega
  go_wp2
  go_loopw [20, 21] (fun sv rv wr => ∃ s r : Nat, a ≤ s ∧ s ≤ r ∧ r ≤ m ∧ r ≤ d ∧ d + m ≤ s + b ∧ sv = .int .i64 s ∧ rv = .int .i64 r ∧ Hid (Srt lo c n g l w wr)) (fun sv rv _ => (intOf rv).toNat - (intOf sv).toNat)
  case atStart => exact ⟨a, m, by omega, by omega, by omega, by omega, by omega, by go_num, rfl, HS⟩
  case round =>
   clear HS
   obtain ⟨s, r, hs1, hs2, hs3, hs4, hs5, rfl, rfl, HS⟩ := hrel
   have s0 : (0 : Int) ≤ (s : Int) := by omega
   have r0 : (0 : Int) ≤ (r : Int) := by omega
   have s9 : (s : Int) ≤ 1000 := by omega
   have r9 : (r : Int) ≤ 1000 := by omega
   by_cases hlt : s < r
   ·
    have i1 : (s : Int) < (r : Int) := by omega
    go_wp2_with fail
    have hP1 : (s : Int) ≤ ((s : Int) + (r : Int)) / 2 := by omega
    have hP2 : ((s : Int) + (r : Int)) / 2 < (r : Int) := by omega
    generalize ((s : Int) + (r : Int)) / 2 = P at *
    obtain ⟨p, rfl⟩ := Int.eq_ofNat_of_zero_le (show 0 ≤ P by omega)
    have p0 : (0 : Int) ≤ (p : Int) := by omega
    have p1 : (p : Int) < (n : Int) := by omega
    have p2 : p < n := by omega
    obtain ⟨q, hqe⟩ : ∃ q, q + p + 1 = d + m := ⟨d + m - p - 1, by omega⟩
    have q0 : (0 : Int) ≤ (q : Int) := by omega
    have q1 : (q : Int) < (n : Int) := by omega
    have q2 : q < n := by omega
    have wq : IntKind.i64.wrap ((d : Int) + (m : Int) - 1 - (p : Int)) = (q : Int) := by rw [IntKind.wrap_i64] <;> omega
    clear hqe
    obtain ⟨⟨l1, hp, ho⟩, hg⟩ := HS.out
    obtain ⟨u, hu⟩ : ∃ u, l1[q]? = some u := ⟨_, List.getElem?_eq_getElem (by rw [ho.len]; omega)⟩
    obtain ⟨v, hv⟩ : ∃ v, l1[p]? = some v := ⟨_, List.getElem?_eq_getElem (by rw [ho.len]; omega)⟩
    obtain ⟨g', eg, _, hgw, hc⟩ := ho.mem (by omega)
    injection eg with eg
    injection eg with eg _ _
    subst eg
    obtain ⟨u0, u1, u2, u3, u4⟩ := hc _ _ hu
    obtain ⟨v0, v1, v2, v3, v4⟩ := hc _ _ hv
    have HGW := Lib.hid hgw
    clear hc hu hv hp ho hg hgw
    refine wp_region_held_drew (S := fun w' => w'.cell? ⟨g, q * 5, none⟩ = some (.int .i64 u.s) ∧ w'.cell? ⟨g, q * 5 + 1, none⟩ = some (.slice u.A u.n u.c) ∧ w'.cell? ⟨g, q * 5 + 2, none⟩ = some (.bool u.K.s) ∧ w'.cell? ⟨g, q * 5 + 3, none⟩ = some (.slice u.K.A u.K.n u.K.c) ∧ w'.cell? ⟨g, q * 5 + 4, none⟩ = some (.slice u.K.B u.K.m u.K.d) ∧ w'.cell? ⟨g, p * 5, none⟩ = some (.int .i64 v.s) ∧ w'.cell? ⟨g, p * 5 + 1, none⟩ = some (.slice v.A v.n v.c) ∧ w'.cell? ⟨g, p * 5 + 2, none⟩ = some (.bool v.K.s) ∧ w'.cell? ⟨g, p * 5 + 3, none⟩ = some (.slice v.K.A v.K.n v.K.c) ∧ w'.cell? ⟨g, p * 5 + 4, none⟩ = some (.slice v.K.B v.K.m v.K.d)) (by kernel_rfl) ?_ (fun hHeld => ?_)
    ·
     (try dsimp only)
     go_keep
    refine tk (i := 0) (h := ?_)
    try simp only [zR]
    refine tk (i := 1) (h := ?_)
    try simp only [zR]
    refine tk (i := 2) (h := ?_)
    try simp only [zR]
    refine tk (i := 3) (h := ?_)
    try simp only [zR]
    refine tk (i := 4) (h := ?_)
    try simp only [zR]
    refine tk (i := 5) (h := ?_)
    try simp only [zR]
    refine tk (i := 6) (h := ?_)
    try simp only [zR]
    refine tk (i := 7) (h := ?_)
    try simp only [zR]
    refine tk (i := 8) (h := ?_)
    try simp only [zR]
    refine tk (i := 9) (h := ?_)
    try simp only [zR]
    refine tk (i := 10) (h := ?_)
    try simp only [zR]
    refine tr [11] ?_
    refine tc (h := fun K hK => ?_) (hs := tn)
    try go_simp
    go_at_call 72
    refine (lit_c _ _ _).mono ?_
    rintro e w2 ⟨kk, rfl, hk1, hk2, hb⟩
    have hbk := hb.block g (by show g < wr.heap.size; exact HGW.out)
    replace u0 := (World.cell?_of_block hbk).trans u0
    replace u1 := (World.cell?_of_block hbk).trans u1
    replace u2 := (World.cell?_of_block hbk).trans u2
    replace u3 := (World.cell?_of_block hbk).trans u3
    replace u4 := (World.cell?_of_block hbk).trans u4
    replace v0 := (World.cell?_of_block hbk).trans v0
    replace v1 := (World.cell?_of_block hbk).trans v1
    replace v2 := (World.cell?_of_block hbk).trans v2
    replace v3 := (World.cell?_of_block hbk).trans v3
    replace v4 := (World.cell?_of_block hbk).trans v4
    have HS2 := Lib.hid (HS.out.below ((bel1 wr).trans hb))
    clear hb hbk
    try go_wp2_with fail
    refine hK.out _ _ ?_ (fun hHeld2 => ?_)
    ·
     (try dsimp only)
     go_keep
    clear hK K hHeld
    have hHeld := hHeld2
    clear hHeld2
    try simp only [zR]
    refine tk (i := 12) (h := ?_)
    try simp only [zR]
    refine tk (i := 13) (h := ?_)
    try simp only [zR]
    refine wpAnyH_done (by kernel_rfl) ?_ _
    clear hHeld u0 u1 u2 u3 u4 v0 v1 v2 v3 v4 HS
    go_wp2
    all_goals go_roundw
    all_goals first
     | exact ⟨s, p, by omega, by omega, by omega, by omega, by omega, rfl, rfl, HS2⟩
     | exact ⟨p + 1, r, by omega, by omega, by omega, by omega, by omega, by go_num, rfl, HS2⟩
     | (simp [intOf]; omega)
   ·
    have i1 : ¬ (s : Int) < (r : Int) := by omega
    go_upto_region 38 with fail
    go_upto_region 39 with fail
    have he1 : (0 : Int) ≤ (d : Int) + (m : Int) - (s : Int) := by omega
    have he2 : (d : Int) + (m : Int) - (s : Int) ≤ (b : Int) := by omega
    have he3 : s + ((d : Int) + (m : Int) - (s : Int)).toNat = d + m := by omega
    generalize (d : Int) + (m : Int) - (s : Int) = E at *
    obtain ⟨e, rfl⟩ := Int.eq_ofNat_of_zero_le he1
    rw [Int.toNat_natCast] at he3
    have HE := Lib.hid he3
    clear he3
    go_upto_region 39 with fail
    go_cut [185] from 178 (fun bv wx => bv = .bool (decide (s < m ∧ m < e)) ∧ wr = wx)
    case first =>
     by_cases q1 : s < m
     ·
      have f1 : (s : Int) < (m : Int) := (by have := HE.out; omega)
      by_cases q2 : m < e
      ·
       have f2 : (m : Int) < (e : Int) := (by have := HE.out; omega)
       go_wp2
       go_meet
       exact ⟨by rw [decide_eq_true ⟨q1, q2⟩], rfl⟩
      ·
       have f2 : ¬ (m : Int) < (e : Int) := (by have := HE.out; omega)
       go_wp2
       go_meet
       exact ⟨by rw [decide_eq_false (fun h => q2 h.2)], rfl⟩
     ·
      have f1 : ¬ (s : Int) < (m : Int) := (by have := HE.out; omega)
      go_wp2
      go_meet
      exact ⟨by rw [decide_eq_false (fun h => q1 h.1)], rfl⟩
    case rest =>
     obtain ⟨rfl, rfl⟩ := hcut
     go_upto_if 185 with fail
     go_cut [] from 185 (fun wx => Hid (Srt lo c n g l w wx))
     case first =>
      by_cases q : s < m ∧ m < e
      ·
       rw [decide_eq_true q]
       obtain ⟨qa, qb⟩ := q
       obtain ⟨⟨l1, hp, ho⟩, hg⟩ := HS.out
       have HP := Lib.hid (And.intro hp (And.intro ho hg))
       clear hp ho hg
       go_wp2_with fail
       refine (rotate_c lo c n g (s : Int) (m : Int) (e : Int) l1 _ HP.out.2.1 (by have := HE.out; omega) (by have := HE.out; omega) (by have := HE.out; omega) (by have := HE.out; omega) hn).mono ?_
       rintro e w2 ⟨rfl, hs⟩
       have HS2 : Hid (Srt lo c n g l w w2) := ⟨by obtain ⟨⟨l2, h3, h4⟩, _⟩ := hs; exact ⟨l2, h3.trans HP.out.1, h4⟩, HP.out.2.2.trans hs.grown⟩
       clear hs
       go_wp2
       go_meet
       exact HS2
      ·
       rw [decide_eq_false q]
       go_wp2
       go_meet
       exact HS
     case rest =>
      clear HS
      have HS := hcut
      clear hcut
      generalize wc = wr at *
      go_upto_region 41 with fail
      go_cut [199] from 192 (fun bv wx => bv = .bool (decide (a < s ∧ s < d)) ∧ wr = wx)
      case first =>
       by_cases q1 : a < s
       ·
        have f1 : (a : Int) < (s : Int) := (by have := HE.out; omega)
        by_cases q2 : s < d
        ·
         have f2 : (s : Int) < (d : Int) := (by have := HE.out; omega)
         go_wp2
         go_meet
         exact ⟨by rw [decide_eq_true ⟨q1, q2⟩], rfl⟩
        ·
         have f2 : ¬ (s : Int) < (d : Int) := (by have := HE.out; omega)
         go_wp2
         go_meet
         exact ⟨by rw [decide_eq_false (fun h => q2 h.2)], rfl⟩
       ·
        have f1 : ¬ (a : Int) < (s : Int) := (by have := HE.out; omega)
        go_wp2
        go_meet
        exact ⟨by rw [decide_eq_false (fun h => q1 h.1)], rfl⟩
      case rest =>
       obtain ⟨rfl, rfl⟩ := hcut
       go_upto_if 199 with fail
       go_cut [] from 199 (fun wx => Hid (Srt lo c n g l w wx))
       case first =>
        by_cases q : a < s ∧ s < d
        ·
         rw [decide_eq_true q]
         obtain ⟨qa, qb⟩ := q
         obtain ⟨⟨l1, hp, ho⟩, hg⟩ := HS.out
         have HP := Lib.hid (And.intro hp (And.intro ho hg))
         clear hp ho hg
         go_wp2_with fail
         refine (IH.out a s d l1 _ (by have := HE.out; omega) (by have := HE.out; omega) (by have := HE.out; omega) (by have := HE.out; omega) (by have := HE.out; omega) HP.out.2.1).mono ?_
         rintro e w2 ⟨rfl, hs⟩
         have HS2 : Hid (Srt lo c n g l w w2) := ⟨by obtain ⟨⟨l2, h3, h4⟩, _⟩ := hs; exact ⟨l2, h3.trans HP.out.1, h4⟩, HP.out.2.2.trans hs.grown⟩
         clear hs
         go_wp2
         go_meet
         exact HS2
        ·
         rw [decide_eq_false q]
         go_wp2
         go_meet
         exact HS
       case rest =>
        clear HS
        have HS := hcut
        clear hcut
        generalize wc = wr at *
        go_upto_region 43 with fail
        go_cut [213] from 206 (fun bv wx => bv = .bool (decide (d < e ∧ e < b)) ∧ wr = wx)
        case first =>
         by_cases q1 : d < e
         ·
          have f1 : (d : Int) < (e : Int) := (by have := HE.out; omega)
          by_cases q2 : e < b
          ·
           have f2 : (e : Int) < (b : Int) := (by have := HE.out; omega)
           go_wp2
           go_meet
           exact ⟨by rw [decide_eq_true ⟨q1, q2⟩], rfl⟩
          ·
           have f2 : ¬ (e : Int) < (b : Int) := (by have := HE.out; omega)
           go_wp2
           go_meet
           exact ⟨by rw [decide_eq_false (fun h => q2 h.2)], rfl⟩
         ·
          have f1 : ¬ (d : Int) < (e : Int) := (by have := HE.out; omega)
          go_wp2
          go_meet
          exact ⟨by rw [decide_eq_false (fun h => q1 h.1)], rfl⟩
        case rest =>
         obtain ⟨rfl, rfl⟩ := hcut
         by_cases q : d < e ∧ e < b
         ·
          rw [decide_eq_true q]
          obtain ⟨qa, qb⟩ := q
          obtain ⟨⟨l1, hp, ho⟩, hg⟩ := HS.out
          have HP := Lib.hid (And.intro hp (And.intro ho hg))
          clear hp ho hg
          go_wp2_with fail
          refine (IH.out d e b l1 _ (by have := HE.out; omega) (by have := HE.out; omega) (by have := HE.out; omega) (by have := HE.out; omega) (by have := HE.out; omega) HP.out.2.1).mono ?_
          rintro ee w2 ⟨rfl, hs⟩
          have HS2 : Hid (Srt lo c n g l w w2) := ⟨by obtain ⟨⟨l2, h3, h4⟩, _⟩ := hs; exact ⟨l2, h3.trans HP.out.1, h4⟩, HP.out.2.2.trans hs.grown⟩
          clear hs
          go_wp2
          refine bodyPost_end (results_none rfl _ _ _) rfl ?_
          exact ⟨rfl, HS2.out⟩
         ·
          rw [decide_eq_false q]
          go_wp2
          refine bodyPost_end (results_none rfl _ _ _) rfl ?_
          exact ⟨rfl, HS.out⟩
end Go.Proofs.YtgffkaconhonlaaGreat

namespace Go.Proofs.YtgffkaconhonlaaGreat
set_option maxRecDepth 20000
open Go.RowKit
theorem insertion_i (lo c n g : Nat) (a b : Int) (l : List Cv) (w : World) (h : OwnC w lo (some ⟨g, 0, none⟩) c n l) (a0 : 0 ≤ a) (b0 : 0 ≤ b) (hb : b ≤ n) (hn : n ≤ 1000) (ha : a ≤ 1000) :
  Calls Tryz.prog 115 #[.slice (some ⟨g, 0, none⟩) n c, .int .i64 a, .int .i64 b, .func (.func 72) #[] #[]] w fun e w' => e = .returned (.tuple #[]) ∧ Srt lo c n g l w w' := by
 obtain ⟨a, rfl⟩ := Int.eq_ofNat_of_zero_le a0
 obtain ⟨b, rfl⟩ := Int.eq_ofNat_of_zero_le b0
 exact insertion_c lo c n g a b l w h (by omega) hn (by omega)
theorem symMerge_i (lo c n g : Nat) (a m b : Int) (l : List Cv) (w : World) (h : OwnC w lo (some ⟨g, 0, none⟩) c n l) (a0 : 0 ≤ a) (am : a < m) (mb : m < b) (bn : b ≤ n) (hn : n ≤ 1000) :
  Calls Tryz.prog 116 #[.slice (some ⟨g, 0, none⟩) n c, .int .i64 a, .int .i64 m, .int .i64 b, .func (.func 72) #[] #[]] w fun e w' => e = .returned (.tuple #[]) ∧ Srt lo c n g l w w' := by
 obtain ⟨a, rfl⟩ := Int.eq_ofNat_of_zero_le a0
 obtain ⟨m, rfl⟩ := Int.eq_ofNat_of_zero_le (show 0 ≤ m by omega)
 obtain ⟨b, rfl⟩ := Int.eq_ofNat_of_zero_le (show 0 ≤ b by omega)
 exact symMerge_c lo c n g hn b a m b l w (by omega) (by omega) (by omega) (by omega) h
set_option maxHeartbeats 12800000 in
theorem stable_c (lo c n g : Nat) (l : List Cv) (w : World) (h : OwnC w lo (some ⟨g, 0, none⟩) c n l) (hn : n ≤ 1000) :
  Calls Tryz.prog 96 #[.slice (some ⟨g, 0, none⟩) n c, .int .i64 (n : Int), .func (.func 72) #[] #[]] w fun e w' => e = .returned (.tuple #[]) ∧ Srt lo c n g l w w' := by
 have HS := Lib.hid (Srt.start h)
 have n0 : (0 : Int) ≤ (n : Int) := by omega
 have n9 : (n : Int) ≤ 1000 := by omega
 clear h
 go_enter Tryz.func96, Tryz.ntmps96
 go_wp2
 go_loopw [7, 8] (fun av bv wr => ∃ a : Nat, a ≤ n ∧ av = .int .i64 (a : Int) ∧ bv = .int .i64 ((a : Int) + 20) ∧ Hid (Srt lo c n g l w wr)) (fun av _ _ => 1001 - (intOf av).toNat)
 case atStart => exact ⟨0, by omega, rfl, rfl, HS⟩
 case round =>
  clear HS
  obtain ⟨a, ha, rfl, rfl, HS⟩ := hrel
  have a0 : (0 : Int) ≤ (a : Int) := by omega
  have a9 : (a : Int) ≤ 1000 := by omega
  by_cases hlt : a + 20 ≤ n
  ·
   have i1 : (a : Int) + 20 ≤ (n : Int) := by omega
   obtain ⟨⟨l1, hp, ho⟩, hg⟩ := HS.out
   have HP := Lib.hid (And.intro hp (And.intro ho hg))
   clear hp ho hg
   go_wp2_with fail
   refine (insertion_i lo c n g _ _ l1 _ HP.out.2.1 (by omega) (by omega) (by omega) hn (by omega)).mono ?_
   rintro e w2 ⟨rfl, hs⟩
   have HS2 : Hid (Srt lo c n g l w w2) := ⟨by obtain ⟨⟨l2, h3, h4⟩, _⟩ := hs; exact ⟨l2, h3.trans HP.out.1, h4⟩, HP.out.2.2.trans hs.grown⟩
   clear hs HP HS
   have HS := HS2
   clear HS2
   go_wp2
   go_roundw
   case rel => exact ⟨a + 20, by omega, by go_num, by go_num, HS⟩
   case measure => simp [intOf]; omega
  ·
   have i1 : ¬ (a : Int) + 20 ≤ (n : Int) := by omega
   obtain ⟨⟨l1, hp, ho⟩, hg⟩ := HS.out
   have HP := Lib.hid (And.intro hp (And.intro ho hg))
   clear hp ho hg
   go_wp2_with fail
   refine (insertion_i lo c n g _ _ l1 _ HP.out.2.1 (by omega) (by omega) (by omega) hn (by omega)).mono ?_
   rintro e w2 ⟨rfl, hs⟩
   have HS2 : Hid (Srt lo c n g l w w2) := ⟨by obtain ⟨⟨l2, h3, h4⟩, _⟩ := hs; exact ⟨l2, h3.trans HP.out.1, h4⟩, HP.out.2.2.trans hs.grown⟩
   clear hs HP HS
   have HS := HS2
   clear HS2
   go_wp2
   go_loopw [6] (fun sv wr => ∃ s : Nat, 20 ≤ s ∧ s ≤ 2000 ∧ sv = .int .i64 (s : Int) ∧ Hid (Srt lo c n g l w wr)) (fun sv _ => 2001 - (intOf sv).toNat)
   case atStart => exact ⟨20, by omega, by omega, rfl, HS⟩
   case round =>
    clear HS
    obtain ⟨s, hs1, hs2, rfl, HS⟩ := hrel
    have s0 : (20 : Int) ≤ (s : Int) := by omega
    have s9 : (s : Int) ≤ 2000 := by omega
    by_cases hsn : s < n
    ·
     have k1 : (s : Int) < (n : Int) := by omega
     go_wp2
     go_loopw [7, 8] (fun av bv wr => ∃ p : Nat, p ≤ n ∧ av = .int .i64 (p : Int) ∧ bv = .int .i64 ((p : Int) + 2 * (s : Int)) ∧ Hid (Srt lo c n g l w wr)) (fun av _ _ => 1001 - (intOf av).toNat)
     case atStart => exact ⟨0, by omega, rfl, by go_num, HS⟩
     case round =>
      clear HS
      obtain ⟨p, hp9, rfl, rfl, HS⟩ := hrel
      have p0 : (0 : Int) ≤ (p : Int) := by omega
      have p9 : (p : Int) ≤ 1000 := by omega
      by_cases hpl : p + 2 * s ≤ n
      ·
       have k2 : (p : Int) + 2 * (s : Int) ≤ (n : Int) := by omega
       obtain ⟨⟨l1, hp, ho⟩, hg⟩ := HS.out
       have HP := Lib.hid (And.intro hp (And.intro ho hg))
       clear hp ho hg
       go_wp2_with fail
       refine (symMerge_i lo c n g _ _ _ l1 _ HP.out.2.1 (by omega) (by omega) (by omega) (by omega) hn).mono ?_
       rintro e w2 ⟨rfl, hs⟩
       have HS2 : Hid (Srt lo c n g l w w2) := ⟨by obtain ⟨⟨l2, h3, h4⟩, _⟩ := hs; exact ⟨l2, h3.trans HP.out.1, h4⟩, HP.out.2.2.trans hs.grown⟩
       clear hs HP HS
       have HS := HS2
       clear HS2
       go_wp2
       go_roundw
       case rel => exact ⟨p + 2 * s, by omega, by go_num, by go_num, HS⟩
       case measure => simp [intOf]; omega
      ·
       have k2 : ¬ (p : Int) + 2 * (s : Int) ≤ (n : Int) := by omega
       by_cases hm : p + s < n
       ·
        have k3 : (p : Int) + (s : Int) < (n : Int) := by omega
        obtain ⟨⟨l1, hp, ho⟩, hg⟩ := HS.out
        have HP := Lib.hid (And.intro hp (And.intro ho hg))
        clear hp ho hg
        go_wp2_with fail
        refine (symMerge_i lo c n g _ _ _ l1 _ HP.out.2.1 (by omega) (by omega) (by omega) (by omega) hn).mono ?_
        rintro e w2 ⟨rfl, hs⟩
        have HS2 : Hid (Srt lo c n g l w w2) := ⟨by obtain ⟨⟨l2, h3, h4⟩, _⟩ := hs; exact ⟨l2, h3.trans HP.out.1, h4⟩, HP.out.2.2.trans hs.grown⟩
        clear hs HP HS
        have HS := HS2
        clear HS2
        go_wp2
        go_roundw
        case rel => exact ⟨s * 2, by omega, by omega, by go_num, HS⟩
        case measure => simp [intOf]; omega
       ·
        have k3 : ¬ (p : Int) + (s : Int) < (n : Int) := by omega
        go_wp2
        go_roundw
        case rel => exact ⟨s * 2, by omega, by omega, by go_num, HS⟩
        case measure => simp [intOf]; omega
    ·
     have k1 : ¬ (s : Int) < (n : Int) := by omega
     go_wp2
     refine bodyPost_end (results_none rfl _ _ _) rfl ?_
     exact ⟨rfl, HS.out⟩
set_option maxHeartbeats 3200000 in
theorem insertion_nil (A : Option Addr) (c : Nat) (w : World) :
  Calls Tryz.prog 115 #[.slice A 0 c, .int .i64 0, .int .i64 0, .func (.func 72) #[] #[]] w fun e w' => e = .returned (.tuple #[]) ∧ w = w' := by
 go_enter Tryz.func115, Tryz.ntmps115
 go_wp2
 go_loopw [8] (fun iv wr => iv = .int .i64 1 ∧ w = wr) (fun _ _ => 0)
 case atStart => exact ⟨rfl, rfl⟩
 case round =>
  obtain ⟨rfl, rfl⟩ := hrel
  go_wp2
  refine bodyPost_end (results_none rfl _ _ _) rfl ?_
  exact ⟨rfl, rfl⟩
set_option maxHeartbeats 3200000 in
theorem stable_nil (A : Option Addr) (c : Nat) (w : World) :
  Calls Tryz.prog 96 #[.slice A 0 c, .int .i64 0, .func (.func 72) #[] #[]] w fun e w' => e = .returned (.tuple #[]) ∧ w = w' := by
 go_enter Tryz.func96, Tryz.ntmps96
 go_wp2
 go_loopw [7, 8] (fun av bv wr => av = .int .i64 0 ∧ bv = .int .i64 20 ∧ w = wr) (fun _ _ _ => 0)
 case atStart => exact ⟨rfl, rfl, rfl⟩
 case round =>
  obtain ⟨rfl, rfl, rfl⟩ := hrel
  go_wp2_with fail
  refine (insertion_nil A c _).mono ?_
  rintro e w2 ⟨rfl, rfl⟩
  go_wp2
  go_loopw [6] (fun sv wr => sv = .int .i64 20 ∧ w = wr) (fun _ _ => 0)
  case atStart => exact ⟨rfl, rfl⟩
  case round =>
   obtain ⟨rfl, rfl⟩ := hrel
   go_wp2
   refine bodyPost_end (results_none rfl _ _ _) rfl ?_
   exact ⟨rfl, rfl⟩
theorem SortStable_c (lo c n : Nat) (A : Option Addr) (l : List Cv) (w : World) (h : OwnC w lo A c n l) (hn : n ≤ 1000) :
  Calls Tryz.prog 71 #[.slice A n c, .func (.func 72) #[] #[]] w fun e w' => e = .returned (.tuple #[]) ∧ ∃ l2 : List Cv, l2.Perm l ∧ OwnC w' lo A c n l2 ∧ w.grownBy w' (A.map (·.block)) := by
 rcases Nat.eq_zero_or_pos n with rfl | hp
 ·
  go_enter Tryz.func71, Tryz.ntmps71
  have HS := Lib.hid h
  clear h
  go_wp2_with fail
  refine (stable_nil A c _).mono ?_
  rintro e w2 ⟨rfl, rfl⟩
  go_wp2
  refine bodyPost_end (results_none rfl _ _ _) rfl ?_
  exact ⟨rfl, l, .refl _, HS.out, grown_refl _ _⟩
 ·
  obtain ⟨g, rfl, _, _, _⟩ := h.mem hp
  have HS := Lib.hid h
  have n9 : (n : Int) ≤ 1000 := by omega
  clear h
  go_enter Tryz.func71, Tryz.ntmps71
  go_wp2_with fail
  refine (stable_c lo c n g l _ HS.out hn).mono ?_
  rintro e w2 ⟨rfl, hs⟩
  have HS2 := Lib.hid hs
  clear hs
  go_wp2
  refine bodyPost_end (results_none rfl _ _ _) rfl ?_
  obtain ⟨⟨l2, h1, h2⟩, h3⟩ := HS2.out
  exact ⟨rfl, l2, h1, h2, h3⟩
end Go.Proofs.YtgffkaconhonlaaGreat
