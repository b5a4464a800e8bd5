/-
  Two neighbouring ranges of sums merged.
-/
import Derived.Test.YtkfkjdpkkagjgaaGreatSrtE
import Derived.Deep.Cut
namespace Go.Proofs.YtkfkjdpkkagjgaaGreat
set_option maxRecDepth 20000
open Go.RowKit
set_option linter.unusedVariables false
set_option maxHeartbeats 25600000 in
theorem symMerge_c (lo c n g : Nat) (hn : n ≤ 1000) : ∀ (f a m b : Nat) (l : List Cv) (w : World) (hf : b ≤ a + f) (am : a < m) (mb : m < b) (bn : b ≤ n) (h : OwnC w lo (some ⟨g, 0, none⟩) c n l),
  Calls Tryz.prog 99 #[.slice (some ⟨g, 0, none⟩) n c, .int .i64 (a : Int), .int .i64 (m : Int), .int .i64 (b : Int), .func (.func 57) #[] #[]] w fun e w' => e = .returned (.tuple #[]) ∧ Srt lo c n g l w w' := by
 intro f
 induction f with
 | zero => intro a m b l w hf am mb; omega
 | succ f ih =>
 intro a m b l w hf am mb bn h
 by_cases h1 : m = a + 1
 · exact symMerge_one lo c n g hn a m b l w am mb bn h h1
 by_cases h2 : b = m + 1
 · exact symMerge_two lo c n g hn a m b l w am mb bn h h1 h2
 have IH : Hid (∀ (a m b : Nat) (l : List Cv) (w : World) (hf : b ≤ a + f) (am : a < m) (mb : m < b) (bn : b ≤ n) (_ : b ≤ n) (h : OwnC w lo (some ⟨g, 0, none⟩) c n l), Calls Tryz.prog 99 #[.slice (some ⟨g, 0, none⟩) n c, .int .i64 (a : Int), .int .i64 (m : Int), .int .i64 (b : Int), .func (.func 57) #[] #[]] w fun e w' => e = .returned (.tuple #[]) ∧ Srt lo c n g l w w') := fun a m b l w hf am mb bn _ h => ih a m b l w hf am mb bn h
 clear ih
 have HS := Lib.hid (Srt.start h)
 have a0 : (0 : Int) ≤ (a : Int) := by omega
 have m0 : (0 : Int) ≤ (m : Int) := by omega
 have b0 : (0 : Int) ≤ (b : Int) := by omega
 have b9 : (b : Int) ≤ 1000 := by omega
 have a9 : (a : Int) ≤ 1000 := by omega
 have m9 : (m : Int) ≤ 1000 := by omega
 have n9 : (n : Int) ≤ 1000 := by omega
 have an : (a : Int) < (n : Int) := by omega
 have mn : (m : Int) < (n : Int) := by omega
 clear h
 have he : ¬ (m : Int) - (a : Int) = 1 := by omega
 have hb1 : ((m : Int) - (a : Int) == 1) = false := by rw [beq_eq_false_iff_ne]; omega
 have he2 : ¬ (b : Int) - (m : Int) = 1 := by omega
 have hb2 : ((b : Int) - (m : Int) == 1) = false := by rw [beq_eq_false_iff_ne]; omega
 go_enter Tryz.func99, Tryz.ntmps99
 go_upto_region 25 with fail
 have hd1 : (a : Int) < ((a : Int) + (b : Int)) / 2 := by omega
 have hd2 : ((a : Int) + (b : Int)) / 2 < (b : Int) := by omega
 have hd3 : 2 * (((a : Int) + (b : Int)) / 2) ≤ (a : Int) + (b : Int) := by omega
 have hd4 : (a : Int) + (b : Int) ≤ 2 * (((a : Int) + (b : Int)) / 2) + 1 := by omega
 generalize ((a : Int) + (b : Int)) / 2 = D at *
 obtain ⟨d, rfl⟩ := Int.eq_ofNat_of_zero_le (show 0 ≤ D by omega)
 have d0 : (0 : Int) ≤ (d : Int) := by omega
 have d9 : (d : Int) ≤ 1000 := by omega
 clear h1 h2
 by_cases hmd : d < m
 ·
  have hm1 : (d : Int) < (m : Int) := by omega
  go_wp2
  go_loopw [20, 21] (fun sv rv wr => ∃ s r : Nat, a ≤ s ∧ s ≤ r ∧ r ≤ m ∧ r ≤ d ∧ d + m ≤ s + b ∧ sv = .int .i64 s ∧ rv = .int .i64 r ∧ Hid (Srt lo c n g l w wr)) (fun sv rv _ => (intOf rv).toNat - (intOf sv).toNat)
  case atStart => exact ⟨(d + m - b), d, by omega, by omega, by omega, by omega, by omega, by go_num, rfl, HS⟩
  case round =>
   clear HS
   obtain ⟨s, r, hs1, hs2, hs3, hs4, hs5, rfl, rfl, HS⟩ := hrel
   have s0 : (0 : Int) ≤ (s : Int) := by omega
   have r0 : (0 : Int) ≤ (r : Int) := by omega
   have s9 : (s : Int) ≤ 1000 := by omega
   have r9 : (r : Int) ≤ 1000 := by omega
   by_cases hlt : s < r
   ·
    have i1 : (s : Int) < (r : Int) := by omega
    go_wp2_with fail
    have hP1 : (s : Int) ≤ ((s : Int) + (r : Int)) / 2 := by omega
    have hP2 : ((s : Int) + (r : Int)) / 2 < (r : Int) := by omega
    generalize ((s : Int) + (r : Int)) / 2 = P at *
    obtain ⟨p, rfl⟩ := Int.eq_ofNat_of_zero_le (show 0 ≤ P by omega)
    have p0 : (0 : Int) ≤ (p : Int) := by omega
    have p1 : (p : Int) < (n : Int) := by omega
    have p2 : p < n := by omega
    obtain ⟨q, hqe⟩ : ∃ q, q + p + 1 = d + m := ⟨d + m - p - 1, by omega⟩
    have q0 : (0 : Int) ≤ (q : Int) := by omega
    have q1 : (q : Int) < (n : Int) := by omega
    have q2 : q < n := by omega
    have wq : IntKind.i64.wrap ((d : Int) + (m : Int) - 1 - (p : Int)) = (q : Int) := by rw [IntKind.wrap_i64] <;> omega
    clear hqe
    obtain ⟨⟨l1, hp, ho⟩, hg⟩ := HS.out
    obtain ⟨u, hu⟩ : ∃ u, l1[q]? = some u := ⟨_, List.getElem?_eq_getElem (by rw [ho.len]; omega)⟩
    obtain ⟨v, hv⟩ : ∃ v, l1[p]? = some v := ⟨_, List.getElem?_eq_getElem (by rw [ho.len]; omega)⟩
    obtain ⟨g', eg, _, hgw, hc⟩ := ho.mem (by omega)
    injection eg with eg
    injection eg with eg _ _
    subst eg
    obtain ⟨u0, u1, u2, u3, u4⟩ := hc _ _ hu
    obtain ⟨v0, v1, v2, v3, v4⟩ := hc _ _ hv
    have HGW := Lib.hid hgw
    clear hc hu hv hp ho hg hgw
    refine wp_region_held_drew (S := fun w' => w'.cell? ⟨g, q * 5, none⟩ = some (.int .i64 u.s) ∧ w'.cell? ⟨g, q * 5 + 1, none⟩ = some (.slice u.A u.n u.c) ∧ w'.cell? ⟨g, q * 5 + 2, none⟩ = some (.bool u.K.s) ∧ w'.cell? ⟨g, q * 5 + 3, none⟩ = some (.slice u.K.A u.K.n u.K.c) ∧ w'.cell? ⟨g, q * 5 + 4, none⟩ = some (.slice u.K.B u.K.m u.K.d) ∧ w'.cell? ⟨g, p * 5, none⟩ = some (.int .i64 v.s) ∧ w'.cell? ⟨g, p * 5 + 1, none⟩ = some (.slice v.A v.n v.c) ∧ w'.cell? ⟨g, p * 5 + 2, none⟩ = some (.bool v.K.s) ∧ w'.cell? ⟨g, p * 5 + 3, none⟩ = some (.slice v.K.A v.K.n v.K.c) ∧ w'.cell? ⟨g, p * 5 + 4, none⟩ = some (.slice v.K.B v.K.m v.K.d)) (by kernel_rfl) ?_ (fun hHeld => ?_)
    ·
     (try dsimp only)
     go_keep
    refine wpAnyH_take (i := 0) (oi := { dst := some 158, op := Op.move (Operand.tmp 4), type := 81, pos := "zsortanyfunc.go:441", after := #[], guard := none }) (v := ?vq113x) rfl (by kernel_rfl) (by kernel_rfl) (by kernel_rfl) (fun _ _ _ h => h) (Or.inl ⟨by rfl, ?hyq113x⟩) (by assumption) ?restq113x
    case hyq113x => intro w hSw; (try dsimp only at hSw); go_simp; all_goals (with_reducible rfl)
    try simp only [Act.put, zA, zB, zC]
    refine wpAnyH_take (i := 1) (oi := { dst := some 159, op := Op.move (Operand.tmp 0), type := 22, pos := "zsortanyfunc.go:441", after := #[], guard := none }) (v := ?vq114x) rfl (by kernel_rfl) (by kernel_rfl) (by kernel_rfl) (fun _ _ _ h => h) (Or.inl ⟨by rfl, ?hyq114x⟩) (by assumption) ?restq114x
    case hyq114x => intro w hSw; (try dsimp only at hSw); go_simp; all_goals (with_reducible rfl)
    try simp only [Act.put, zA, zB, zC]
    refine wpAnyH_take (i := 2) (oi := { dst := some 160, op := Op.move (Operand.tmp 22), type := 3, pos := "zsortanyfunc.go:441", after := #[], guard := none }) (v := ?vq115x) rfl (by kernel_rfl) (by kernel_rfl) (by kernel_rfl) (fun _ _ _ h => h) (Or.inl ⟨by rfl, ?hyq115x⟩) (by assumption) ?restq115x
    case hyq115x => intro w hSw; (try dsimp only at hSw); go_simp; all_goals (with_reducible rfl)
    try simp only [Act.put, zA, zB, zC]
    refine wpAnyH_take (i := 3) (oi := { dst := some 161, op := Op.move (Operand.tmp 23), type := 3, pos := "zsortanyfunc.go:441", after := #[], guard := none }) (v := ?vq116x) rfl (by kernel_rfl) (by kernel_rfl) (by kernel_rfl) (fun _ _ _ h => h) (Or.inl ⟨by rfl, ?hyq116x⟩) (by assumption) ?restq116x
    case hyq116x => intro w hSw; (try dsimp only at hSw); go_simp; all_goals (with_reducible rfl)
    try simp only [Act.put, zA, zB, zC]
    refine wpAnyH_take (i := 4) (oi := { dst := some 162, op := Op.binOp BinOp.sub 3 (Operand.tmp 160) (Operand.tmp 161) 3, type := 3, pos := "zsortanyfunc.go:441", after := #[eD 2, eD 3], guard := none }) (v := ?vq117x) rfl (by kernel_rfl) (by kernel_rfl) (by kernel_rfl) (fun _ _ _ h => h) (Or.inl ⟨by rfl, ?hyq117x⟩) (by assumption) ?restq117x
    case hyq117x => intro w hSw; (try dsimp only at hSw); go_simp; all_goals (with_reducible rfl)
    try simp only [Act.put, zA, zB, zC]
    refine wpAnyH_take (i := 5) (oi := { dst := some 163, op := Op.indexAddr 22 (Operand.tmp 159) (Operand.tmp 162), type := 0, pos := "zsortanyfunc.go:441", after := #[eD 1, eD 4], guard := none }) (v := ?vq118x) rfl (by kernel_rfl) (by kernel_rfl) (by kernel_rfl) (fun _ _ _ h => h) (Or.inl ⟨by rfl, ?hyq118x⟩) (by assumption) ?restq118x
    case hyq118x => intro w hSw; (try dsimp only at hSw); go_simp; all_goals (with_reducible rfl)
    try simp only [Act.put, zA, zB, zC]
    refine wpAnyH_take (i := 6) (oi := { dst := some 164, op := Op.load 28 (Operand.tmp 163), type := 28, pos := "zsortanyfunc.go:441", after := #[eD 5], guard := none }) (v := ?vq119x) rfl (by kernel_rfl) (by kernel_rfl) (by kernel_rfl) (fun _ _ _ h => h) (Or.inl ⟨by rfl, ?hyq119x⟩) (by assumption) ?restq119x
    case hyq119x => intro w hSw; (try dsimp only at hSw); go_simp; all_goals (with_reducible rfl)
    try simp only [Act.put, zA, zB, zC]
    refine wpAnyH_take (i := 7) (oi := { dst := some 165, op := Op.move (Operand.tmp 0), type := 22, pos := "zsortanyfunc.go:441", after := #[], guard := none }) (v := ?vq120x) rfl (by kernel_rfl) (by kernel_rfl) (by kernel_rfl) (fun _ _ _ h => h) (Or.inl ⟨by rfl, ?hyq120x⟩) (by assumption) ?restq120x
    case hyq120x => intro w hSw; (try dsimp only at hSw); go_simp; all_goals (with_reducible rfl)
    try simp only [Act.put, zA, zB, zC]
    refine wpAnyH_take (i := 8) (oi := { dst := some 166, op := Op.move (Operand.tmp 23), type := 3, pos := "zsortanyfunc.go:441", after := #[], guard := none }) (v := ?vq121x) rfl (by kernel_rfl) (by kernel_rfl) (by kernel_rfl) (fun _ _ _ h => h) (Or.inl ⟨by rfl, ?hyq121x⟩) (by assumption) ?restq121x
    case hyq121x => intro w hSw; (try dsimp only at hSw); go_simp; all_goals (with_reducible rfl)
    try simp only [Act.put, zA, zB, zC]
    refine wpAnyH_take (i := 9) (oi := { dst := some 167, op := Op.indexAddr 22 (Operand.tmp 165) (Operand.tmp 166), type := 0, pos := "zsortanyfunc.go:441", after := #[eD 7, eD 8], guard := none }) (v := ?vq122x) rfl (by kernel_rfl) (by kernel_rfl) (by kernel_rfl) (fun _ _ _ h => h) (Or.inl ⟨by rfl, ?hyq122x⟩) (by assumption) ?restq122x
    case hyq122x => intro w hSw; (try dsimp only at hSw); go_simp; all_goals (with_reducible rfl)
    try simp only [Act.put, zA, zB, zC]
    refine wpAnyH_take (i := 10) (oi := { dst := some 168, op := Op.load 28 (Operand.tmp 167), type := 28, pos := "zsortanyfunc.go:441", after := #[eD 9], guard := none }) (v := ?vq123x) rfl (by kernel_rfl) (by kernel_rfl) (by kernel_rfl) (fun _ _ _ h => h) (Or.inl ⟨by rfl, ?hyq123x⟩) (by assumption) ?restq123x
    case hyq123x => intro w hSw; (try dsimp only at hSw); go_simp; all_goals (with_reducible rfl)
    try simp only [Act.put, zA, zB, zC]
    refine wpAnyH_ready (rs := [11]) (by kernel_rfl) (by simp) ?_
    refine AllReadyH.cons (o := { dst := some 169, op := Op.call { callee := Callee.value (Operand.tmp 158), args := #[Operand.tmp 164, Operand.tmp 168], argTypes := #[28, 28] }, type := 3, pos := "zsortanyfunc.go:441", after := #[eD 0, eD 6, eD 10], guard := none }) rfl (fun K hK => ?_) AllReadyH.nil
    try go_simp
    go_at_call 57
    refine (lit_c _ _ _).mono ?_
    rintro e w2 ⟨kk, rfl, hk1, hk2, hb⟩
    have hbk := hb.block g (by show g < wr.heap.size; exact HGW.out)
    replace u0 := (World.cell?_of_block hbk).trans u0
    replace u1 := (World.cell?_of_block hbk).trans u1
    replace u2 := (World.cell?_of_block hbk).trans u2
    replace u3 := (World.cell?_of_block hbk).trans u3
    replace u4 := (World.cell?_of_block hbk).trans u4
    replace v0 := (World.cell?_of_block hbk).trans v0
    replace v1 := (World.cell?_of_block hbk).trans v1
    replace v2 := (World.cell?_of_block hbk).trans v2
    replace v3 := (World.cell?_of_block hbk).trans v3
    replace v4 := (World.cell?_of_block hbk).trans v4
    have HS2 := Lib.hid (HS.out.below ((bel1 wr).trans hb))
    clear hb hbk
    try go_wp2_with fail
    refine hK.out _ _ ?_ (fun hHeld2 => ?_)
    ·
     (try dsimp only)
     go_keep
    clear hK K hHeld
    have hHeld := hHeld2
    clear hHeld2
    try simp only [Act.put, zA, zB, zC]
    refine wpAnyH_take (i := 12) (oi := { dst := some 170, op := Op.binOp BinOp.lss 3 (Operand.tmp 169) (Operand.const (Value.int IntKind.i64 0)) 3, type := 4, pos := "zsortanyfunc.go:441", after := #[eD 11], guard := none }) (v := ?vq124x) rfl (by kernel_rfl) (by kernel_rfl) (by kernel_rfl) (fun _ _ _ h => h) (Or.inl ⟨by rfl, ?hyq124x⟩) (by assumption) ?restq124x
    case hyq124x => intro w hSw; (try dsimp only at hSw); go_simp; all_goals (with_reducible rfl)
    try simp only [Act.put, zA, zB, zC]
    refine wpAnyH_take (i := 13) (oi := { dst := some 171, op := Op.unOp UnOp.not 4 (Operand.tmp 170), type := 4, pos := "zsortanyfunc.go:441", after := #[eD 12], guard := none }) (v := ?vq125x) rfl (by kernel_rfl) (by kernel_rfl) (by kernel_rfl) (fun _ _ _ h => h) (Or.inl ⟨by rfl, ?hyq125x⟩) (by assumption) ?restq125x
    case hyq125x => intro w hSw; (try dsimp only at hSw); go_simp; all_goals (with_reducible rfl)
    try simp only [Act.put, zA, zB, zC]
    refine wpAnyH_done (by kernel_rfl) ?_ _
    clear hHeld u0 u1 u2 u3 u4 v0 v1 v2 v3 v4 HS
    go_wp2
    all_goals go_roundw
    all_goals first
     | exact ⟨s, p, by omega, by omega, by omega, by omega, by omega, rfl, rfl, HS2⟩
     | exact ⟨p + 1, r, by omega, by omega, by omega, by omega, by omega, by go_num, rfl, HS2⟩
     | (simp [intOf]; omega)
   ·
    have i1 : ¬ (s : Int) < (r : Int) := by omega
    go_upto_region 38 with fail
    go_upto_region 39 with fail
    have he1 : (0 : Int) ≤ (d : Int) + (m : Int) - (s : Int) := by omega
    have he2 : (d : Int) + (m : Int) - (s : Int) ≤ (b : Int) := by omega
    have he3 : s + ((d : Int) + (m : Int) - (s : Int)).toNat = d + m := by omega
    generalize (d : Int) + (m : Int) - (s : Int) = E at *
    obtain ⟨e, rfl⟩ := Int.eq_ofNat_of_zero_le he1
    rw [Int.toNat_natCast] at he3
    have HE := Lib.hid he3
    clear he3
    go_upto_region 39 with fail
    go_cut [185] from 178 (fun bv wx => bv = .bool (decide (s < m ∧ m < e)) ∧ wr = wx)
    case first =>
     by_cases q1 : s < m
     ·
      have f1 : (s : Int) < (m : Int) := (by have := HE.out; omega)
      by_cases q2 : m < e
      ·
       have f2 : (m : Int) < (e : Int) := (by have := HE.out; omega)
       go_wp2
       go_meet
       exact ⟨by rw [decide_eq_true ⟨q1, q2⟩], rfl⟩
      ·
       have f2 : ¬ (m : Int) < (e : Int) := (by have := HE.out; omega)
       go_wp2
       go_meet
       exact ⟨by rw [decide_eq_false (fun h => q2 h.2)], rfl⟩
     ·
      have f1 : ¬ (s : Int) < (m : Int) := (by have := HE.out; omega)
      go_wp2
      go_meet
      exact ⟨by rw [decide_eq_false (fun h => q1 h.1)], rfl⟩
    case rest =>
     obtain ⟨rfl, rfl⟩ := hcut
     go_upto_if 185 with fail
     go_cut [] from 185 (fun wx => Hid (Srt lo c n g l w wx))
     case first =>
      by_cases q : s < m ∧ m < e
      ·
       rw [decide_eq_true q]
       obtain ⟨qa, qb⟩ := q
       obtain ⟨⟨l1, hp, ho⟩, hg⟩ := HS.out
       have HP := Lib.hid (And.intro hp (And.intro ho hg))
       clear hp ho hg
       go_wp2_with fail
       refine (rotate_c lo c n g (s : Int) (m : Int) (e : Int) l1 _ HP.out.2.1 (by have := HE.out; omega) (by have := HE.out; omega) (by have := HE.out; omega) (by have := HE.out; omega) hn).mono ?_
       rintro e w2 ⟨rfl, hs⟩
       have HS2 : Hid (Srt lo c n g l w w2) := ⟨by obtain ⟨⟨l2, h3, h4⟩, _⟩ := hs; exact ⟨l2, h3.trans HP.out.1, h4⟩, HP.out.2.2.trans hs.grown⟩
       clear hs
       go_wp2
       go_meet
       exact HS2
      ·
       rw [decide_eq_false q]
       go_wp2
       go_meet
       exact HS
     case rest =>
      clear HS
      have HS := hcut
      clear hcut
      generalize wc = wr at *
      go_upto_region 41 with fail
      go_cut [199] from 192 (fun bv wx => bv = .bool (decide (a < s ∧ s < d)) ∧ wr = wx)
      case first =>
       by_cases q1 : a < s
       ·
        have f1 : (a : Int) < (s : Int) := (by have := HE.out; omega)
        by_cases q2 : s < d
        ·
         have f2 : (s : Int) < (d : Int) := (by have := HE.out; omega)
         go_wp2
         go_meet
         exact ⟨by rw [decide_eq_true ⟨q1, q2⟩], rfl⟩
        ·
         have f2 : ¬ (s : Int) < (d : Int) := (by have := HE.out; omega)
         go_wp2
         go_meet
         exact ⟨by rw [decide_eq_false (fun h => q2 h.2)], rfl⟩
       ·
        have f1 : ¬ (a : Int) < (s : Int) := (by have := HE.out; omega)
        go_wp2
        go_meet
        exact ⟨by rw [decide_eq_false (fun h => q1 h.1)], rfl⟩
      case rest =>
       obtain ⟨rfl, rfl⟩ := hcut
       go_upto_if 199 with fail
       go_cut [] from 199 (fun wx => Hid (Srt lo c n g l w wx))
       case first =>
        by_cases q : a < s ∧ s < d
        ·
         rw [decide_eq_true q]
         obtain ⟨qa, qb⟩ := q
         obtain ⟨⟨l1, hp, ho⟩, hg⟩ := HS.out
         have HP := Lib.hid (And.intro hp (And.intro ho hg))
         clear hp ho hg
         go_wp2_with fail
         refine (IH.out a s d l1 _ (by have := HE.out; omega) (by have := HE.out; omega) (by have := HE.out; omega) (by have := HE.out; omega) (by have := HE.out; omega) HP.out.2.1).mono ?_
         rintro e w2 ⟨rfl, hs⟩
         have HS2 : Hid (Srt lo c n g l w w2) := ⟨by obtain ⟨⟨l2, h3, h4⟩, _⟩ := hs; exact ⟨l2, h3.trans HP.out.1, h4⟩, HP.out.2.2.trans hs.grown⟩
         clear hs
         go_wp2
         go_meet
         exact HS2
        ·
         rw [decide_eq_false q]
         go_wp2
         go_meet
         exact HS
       case rest =>
        clear HS
        have HS := hcut
        clear hcut
        generalize wc = wr at *
        go_upto_region 43 with fail
        go_cut [213] from 206 (fun bv wx => bv = .bool (decide (d < e ∧ e < b)) ∧ wr = wx)
        case first =>
         by_cases q1 : d < e
         ·
          have f1 : (d : Int) < (e : Int) := (by have := HE.out; omega)
          by_cases q2 : e < b
          ·
           have f2 : (e : Int) < (b : Int) := (by have := HE.out; omega)
           go_wp2
           go_meet
           exact ⟨by rw [decide_eq_true ⟨q1, q2⟩], rfl⟩
          ·
           have f2 : ¬ (e : Int) < (b : Int) := (by have := HE.out; omega)
           go_wp2
           go_meet
           exact ⟨by rw [decide_eq_false (fun h => q2 h.2)], rfl⟩
         ·
          have f1 : ¬ (d : Int) < (e : Int) := (by have := HE.out; omega)
          go_wp2
          go_meet
          exact ⟨by rw [decide_eq_false (fun h => q1 h.1)], rfl⟩
        case rest =>
         obtain ⟨rfl, rfl⟩ := hcut
         by_cases q : d < e ∧ e < b
         ·
          rw [decide_eq_true q]
          obtain ⟨qa, qb⟩ := q
          obtain ⟨⟨l1, hp, ho⟩, hg⟩ := HS.out
          have HP := Lib.hid (And.intro hp (And.intro ho hg))
          clear hp ho hg
          go_wp2_with fail
          refine (IH.out d e b l1 _ (by have := HE.out; omega) (by have := HE.out; omega) (by have := HE.out; omega) (by have := HE.out; omega) (by have := HE.out; omega) HP.out.2.1).mono ?_
          rintro ee w2 ⟨rfl, hs⟩
          have HS2 : Hid (Srt lo c n g l w w2) := ⟨by obtain ⟨⟨l2, h3, h4⟩, _⟩ := hs; exact ⟨l2, h3.trans HP.out.1, h4⟩, HP.out.2.2.trans hs.grown⟩
          clear hs
          go_wp2
          refine bodyPost_end (results_none rfl _ _ _) rfl ?_
          exact ⟨rfl, HS2.out⟩
         ·
          rw [decide_eq_false q]
          go_wp2
          refine bodyPost_end (results_none rfl _ _ _) rfl ?_
          exact ⟨rfl, HS.out⟩
 ·
  have hm1 : ¬ (d : Int) < (m : Int) := by omega
  go_wp2
  go_loopw [20, 21] (fun sv rv wr => ∃ s r : Nat, a ≤ s ∧ s ≤ r ∧ r ≤ m ∧ r ≤ d ∧ d + m ≤ s + b ∧ sv = .int .i64 s ∧ rv = .int .i64 r ∧ Hid (Srt lo c n g l w wr)) (fun sv rv _ => (intOf rv).toNat - (intOf sv).toNat)
  case atStart => exact ⟨a, m, by omega, by omega, by omega, by omega, by omega, by go_num, rfl, HS⟩
  case round =>
   clear HS
   obtain ⟨s, r, hs1, hs2, hs3, hs4, hs5, rfl, rfl, HS⟩ := hrel
   have s0 : (0 : Int) ≤ (s : Int) := by omega
   have r0 : (0 : Int) ≤ (r : Int) := by omega
   have s9 : (s : Int) ≤ 1000 := by omega
   have r9 : (r : Int) ≤ 1000 := by omega
   by_cases hlt : s < r
   ·
    have i1 : (s : Int) < (r : Int) := by omega
    go_wp2_with fail
    have hP1 : (s : Int) ≤ ((s : Int) + (r : Int)) / 2 := by omega
    have hP2 : ((s : Int) + (r : Int)) / 2 < (r : Int) := by omega
    generalize ((s : Int) + (r : Int)) / 2 = P at *
    obtain ⟨p, rfl⟩ := Int.eq_ofNat_of_zero_le (show 0 ≤ P by omega)
    have p0 : (0 : Int) ≤ (p : Int) := by omega
    have p1 : (p : Int) < (n : Int) := by omega
    have p2 : p < n := by omega
    obtain ⟨q, hqe⟩ : ∃ q, q + p + 1 = d + m := ⟨d + m - p - 1, by omega⟩
    have q0 : (0 : Int) ≤ (q : Int) := by omega
    have q1 : (q : Int) < (n : Int) := by omega
    have q2 : q < n := by omega
    have wq : IntKind.i64.wrap ((d : Int) + (m : Int) - 1 - (p : Int)) = (q : Int) := by rw [IntKind.wrap_i64] <;> omega
    clear hqe
    obtain ⟨⟨l1, hp, ho⟩, hg⟩ := HS.out
    obtain ⟨u, hu⟩ : ∃ u, l1[q]? = some u := ⟨_, List.getElem?_eq_getElem (by rw [ho.len]; omega)⟩
    obtain ⟨v, hv⟩ : ∃ v, l1[p]? = some v := ⟨_, List.getElem?_eq_getElem (by rw [ho.len]; omega)⟩
    obtain ⟨g', eg, _, hgw, hc⟩ := ho.mem (by omega)
    injection eg with eg
    injection eg with eg _ _
    subst eg
    obtain ⟨u0, u1, u2, u3, u4⟩ := hc _ _ hu
    obtain ⟨v0, v1, v2, v3, v4⟩ := hc _ _ hv
    have HGW := Lib.hid hgw
    clear hc hu hv hp ho hg hgw
    refine wp_region_held_drew (S := fun w' => w'.cell? ⟨g, q * 5, none⟩ = some (.int .i64 u.s) ∧ w'.cell? ⟨g, q * 5 + 1, none⟩ = some (.slice u.A u.n u.c) ∧ w'.cell? ⟨g, q * 5 + 2, none⟩ = some (.bool u.K.s) ∧ w'.cell? ⟨g, q * 5 + 3, none⟩ = some (.slice u.K.A u.K.n u.K.c) ∧ w'.cell? ⟨g, q * 5 + 4, none⟩ = some (.slice u.K.B u.K.m u.K.d) ∧ w'.cell? ⟨g, p * 5, none⟩ = some (.int .i64 v.s) ∧ w'.cell? ⟨g, p * 5 + 1, none⟩ = some (.slice v.A v.n v.c) ∧ w'.cell? ⟨g, p * 5 + 2, none⟩ = some (.bool v.K.s) ∧ w'.cell? ⟨g, p * 5 + 3, none⟩ = some (.slice v.K.A v.K.n v.K.c) ∧ w'.cell? ⟨g, p * 5 + 4, none⟩ = some (.slice v.K.B v.K.m v.K.d)) (by kernel_rfl) ?_ (fun hHeld => ?_)
    ·
     (try dsimp only)
     go_keep
    refine wpAnyH_take (i := 0) (oi := { dst := some 158, op := Op.move (Operand.tmp 4), type := 81, pos := "zsortanyfunc.go:441", after := #[], guard := none }) (v := ?vq126x) rfl (by kernel_rfl) (by kernel_rfl) (by kernel_rfl) (fun _ _ _ h => h) (Or.inl ⟨by rfl, ?hyq126x⟩) (by assumption) ?restq126x
    case hyq126x => intro w hSw; (try dsimp only at hSw); go_simp; all_goals (with_reducible rfl)
    try simp only [Act.put, zA, zB, zC]
    refine wpAnyH_take (i := 1) (oi := { dst := some 159, op := Op.move (Operand.tmp 0), type := 22, pos := "zsortanyfunc.go:441", after := #[], guard := none }) (v := ?vq127x) rfl (by kernel_rfl) (by kernel_rfl) (by kernel_rfl) (fun _ _ _ h => h) (Or.inl ⟨by rfl, ?hyq127x⟩) (by assumption) ?restq127x
    case hyq127x => intro w hSw; (try dsimp only at hSw); go_simp; all_goals (with_reducible rfl)
    try simp only [Act.put, zA, zB, zC]
    refine wpAnyH_take (i := 2) (oi := { dst := some 160, op := Op.move (Operand.tmp 22), type := 3, pos := "zsortanyfunc.go:441", after := #[], guard := none }) (v := ?vq128x) rfl (by kernel_rfl) (by kernel_rfl) (by kernel_rfl) (fun _ _ _ h => h) (Or.inl ⟨by rfl, ?hyq128x⟩) (by assumption) ?restq128x
    case hyq128x => intro w hSw; (try dsimp only at hSw); go_simp; all_goals (with_reducible rfl)
    try simp only [Act.put, zA, zB, zC]
    refine wpAnyH_take (i := 3) (oi := { dst := some 161, op := Op.move (Operand.tmp 23), type := 3, pos := "zsortanyfunc.go:441", after := #[], guard := none }) (v := ?vq129x) rfl (by kernel_rfl) (by kernel_rfl) (by kernel_rfl) (fun _ _ _ h => h) (Or.inl ⟨by rfl, ?hyq129x⟩) (by assumption) ?restq129x
    case hyq129x => intro w hSw; (try dsimp only at hSw); go_simp; all_goals (with_reducible rfl)
    try simp only [Act.put, zA, zB, zC]
    refine wpAnyH_take (i := 4) (oi := { dst := some 162, op := Op.binOp BinOp.sub 3 (Operand.tmp 160) (Operand.tmp 161) 3, type := 3, pos := "zsortanyfunc.go:441", after := #[eD 2, eD 3], guard := none }) (v := ?vq130x) rfl (by kernel_rfl) (by kernel_rfl) (by kernel_rfl) (fun _ _ _ h => h) (Or.inl ⟨by rfl, ?hyq130x⟩) (by assumption) ?restq130x
    case hyq130x => intro w hSw; (try dsimp only at hSw); go_simp; all_goals (with_reducible rfl)
    try simp only [Act.put, zA, zB, zC]
    refine wpAnyH_take (i := 5) (oi := { dst := some 163, op := Op.indexAddr 22 (Operand.tmp 159) (Operand.tmp 162), type := 0, pos := "zsortanyfunc.go:441", after := #[eD 1, eD 4], guard := none }) (v := ?vq131x) rfl (by kernel_rfl) (by kernel_rfl) (by kernel_rfl) (fun _ _ _ h => h) (Or.inl ⟨by rfl, ?hyq131x⟩) (by assumption) ?restq131x
    case hyq131x => intro w hSw; (try dsimp only at hSw); go_simp; all_goals (with_reducible rfl)
    try simp only [Act.put, zA, zB, zC]
    refine wpAnyH_take (i := 6) (oi := { dst := some 164, op := Op.load 28 (Operand.tmp 163), type := 28, pos := "zsortanyfunc.go:441", after := #[eD 5], guard := none }) (v := ?vq132x) rfl (by kernel_rfl) (by kernel_rfl) (by kernel_rfl) (fun _ _ _ h => h) (Or.inl ⟨by rfl, ?hyq132x⟩) (by assumption) ?restq132x
    case hyq132x => intro w hSw; (try dsimp only at hSw); go_simp; all_goals (with_reducible rfl)
    try simp only [Act.put, zA, zB, zC]
    refine wpAnyH_take (i := 7) (oi := { dst := some 165, op := Op.move (Operand.tmp 0), type := 22, pos := "zsortanyfunc.go:441", after := #[], guard := none }) (v := ?vq133x) rfl (by kernel_rfl) (by kernel_rfl) (by kernel_rfl) (fun _ _ _ h => h) (Or.inl ⟨by rfl, ?hyq133x⟩) (by assumption) ?restq133x
    case hyq133x => intro w hSw; (try dsimp only at hSw); go_simp; all_goals (with_reducible rfl)
    try simp only [Act.put, zA, zB, zC]
    refine wpAnyH_take (i := 8) (oi := { dst := some 166, op := Op.move (Operand.tmp 23), type := 3, pos := "zsortanyfunc.go:441", after := #[], guard := none }) (v := ?vq134x) rfl (by kernel_rfl) (by kernel_rfl) (by kernel_rfl) (fun _ _ _ h => h) (Or.inl ⟨by rfl, ?hyq134x⟩) (by assumption) ?restq134x
    case hyq134x => intro w hSw; (try dsimp only at hSw); go_simp; all_goals (with_reducible rfl)
    try simp only [Act.put, zA, zB, zC]
    refine wpAnyH_take (i := 9) (oi := { dst := some 167, op := Op.indexAddr 22 (Operand.tmp 165) (Operand.tmp 166), type := 0, pos := "zsortanyfunc.go:441", after := #[eD 7, eD 8], guard := none }) (v := ?vq135x) rfl (by kernel_rfl) (by kernel_rfl) (by kernel_rfl) (fun _ _ _ h => h) (Or.inl ⟨by rfl, ?hyq135x⟩) (by assumption) ?restq135x
    case hyq135x => intro w hSw; (try dsimp only at hSw); go_simp; all_goals (with_reducible rfl)
    try simp only [Act.put, zA, zB, zC]
    refine wpAnyH_take (i := 10) (oi := { dst := some 168, op := Op.load 28 (Operand.tmp 167), type := 28, pos := "zsortanyfunc.go:441", after := #[eD 9], guard := none }) (v := ?vq136x) rfl (by kernel_rfl) (by kernel_rfl) (by kernel_rfl) (fun _ _ _ h => h) (Or.inl ⟨by rfl, ?hyq136x⟩) (by assumption) ?restq136x
    case hyq136x => intro w hSw; (try dsimp only at hSw); go_simp; all_goals (with_reducible rfl)
    try simp only [Act.put, zA, zB, zC]
    refine wpAnyH_ready (rs := [11]) (by kernel_rfl) (by simp) ?_
    refine AllReadyH.cons (o := { dst := some 169, op := Op.call { callee := Callee.value (Operand.tmp 158), args := #[Operand.tmp 164, Operand.tmp 168], argTypes := #[28, 28] }, type := 3, pos := "zsortanyfunc.go:441", after := #[eD 0, eD 6, eD 10], guard := none }) rfl (fun K hK => ?_) AllReadyH.nil
    try go_simp
    go_at_call 57
    refine (lit_c _ _ _).mono ?_
    rintro e w2 ⟨kk, rfl, hk1, hk2, hb⟩
    have hbk := hb.block g (by show g < wr.heap.size; exact HGW.out)
    replace u0 := (World.cell?_of_block hbk).trans u0
    replace u1 := (World.cell?_of_block hbk).trans u1
    replace u2 := (World.cell?_of_block hbk).trans u2
    replace u3 := (World.cell?_of_block hbk).trans u3
    replace u4 := (World.cell?_of_block hbk).trans u4
    replace v0 := (World.cell?_of_block hbk).trans v0
    replace v1 := (World.cell?_of_block hbk).trans v1
    replace v2 := (World.cell?_of_block hbk).trans v2
    replace v3 := (World.cell?_of_block hbk).trans v3
    replace v4 := (World.cell?_of_block hbk).trans v4
    have HS2 := Lib.hid (HS.out.below ((bel1 wr).trans hb))
    clear hb hbk
    try go_wp2_with fail
    refine hK.out _ _ ?_ (fun hHeld2 => ?_)
    ·
     (try dsimp only)
     go_keep
    clear hK K hHeld
    have hHeld := hHeld2
    clear hHeld2
    try simp only [Act.put, zA, zB, zC]
    refine wpAnyH_take (i := 12) (oi := { dst := some 170, op := Op.binOp BinOp.lss 3 (Operand.tmp 169) (Operand.const (Value.int IntKind.i64 0)) 3, type := 4, pos := "zsortanyfunc.go:441", after := #[eD 11], guard := none }) (v := ?vq137x) rfl (by kernel_rfl) (by kernel_rfl) (by kernel_rfl) (fun _ _ _ h => h) (Or.inl ⟨by rfl, ?hyq137x⟩) (by assumption) ?restq137x
    case hyq137x => intro w hSw; (try dsimp only at hSw); go_simp; all_goals (with_reducible rfl)
    try simp only [Act.put, zA, zB, zC]
    refine wpAnyH_take (i := 13) (oi := { dst := some 171, op := Op.unOp UnOp.not 4 (Operand.tmp 170), type := 4, pos := "zsortanyfunc.go:441", after := #[eD 12], guard := none }) (v := ?vq138x) rfl (by kernel_rfl) (by kernel_rfl) (by kernel_rfl) (fun _ _ _ h => h) (Or.inl ⟨by rfl, ?hyq138x⟩) (by assumption) ?restq138x
    case hyq138x => intro w hSw; (try dsimp only at hSw); go_simp; all_goals (with_reducible rfl)
    try simp only [Act.put, zA, zB, zC]
    refine wpAnyH_done (by kernel_rfl) ?_ _
    clear hHeld u0 u1 u2 u3 u4 v0 v1 v2 v3 v4 HS
    go_wp2
    all_goals go_roundw
    all_goals first
     | exact ⟨s, p, by omega, by omega, by omega, by omega, by omega, rfl, rfl, HS2⟩
     | exact ⟨p + 1, r, by omega, by omega, by omega, by omega, by omega, by go_num, rfl, HS2⟩
     | (simp [intOf]; omega)
   ·
    have i1 : ¬ (s : Int) < (r : Int) := by omega
    go_upto_region 38 with fail
    go_upto_region 39 with fail
    have he1 : (0 : Int) ≤ (d : Int) + (m : Int) - (s : Int) := by omega
    have he2 : (d : Int) + (m : Int) - (s : Int) ≤ (b : Int) := by omega
    have he3 : s + ((d : Int) + (m : Int) - (s : Int)).toNat = d + m := by omega
    generalize (d : Int) + (m : Int) - (s : Int) = E at *
    obtain ⟨e, rfl⟩ := Int.eq_ofNat_of_zero_le he1
    rw [Int.toNat_natCast] at he3
    have HE := Lib.hid he3
    clear he3
    go_upto_region 39 with fail
    go_cut [185] from 178 (fun bv wx => bv = .bool (decide (s < m ∧ m < e)) ∧ wr = wx)
    case first =>
     by_cases q1 : s < m
     ·
      have f1 : (s : Int) < (m : Int) := (by have := HE.out; omega)
      by_cases q2 : m < e
      ·
       have f2 : (m : Int) < (e : Int) := (by have := HE.out; omega)
       go_wp2
       go_meet
       exact ⟨by rw [decide_eq_true ⟨q1, q2⟩], rfl⟩
      ·
       have f2 : ¬ (m : Int) < (e : Int) := (by have := HE.out; omega)
       go_wp2
       go_meet
       exact ⟨by rw [decide_eq_false (fun h => q2 h.2)], rfl⟩
     ·
      have f1 : ¬ (s : Int) < (m : Int) := (by have := HE.out; omega)
      go_wp2
      go_meet
      exact ⟨by rw [decide_eq_false (fun h => q1 h.1)], rfl⟩
    case rest =>
     obtain ⟨rfl, rfl⟩ := hcut
     go_upto_if 185 with fail
     go_cut [] from 185 (fun wx => Hid (Srt lo c n g l w wx))
     case first =>
      by_cases q : s < m ∧ m < e
      ·
       rw [decide_eq_true q]
       obtain ⟨qa, qb⟩ := q
       obtain ⟨⟨l1, hp, ho⟩, hg⟩ := HS.out
       have HP := Lib.hid (And.intro hp (And.intro ho hg))
       clear hp ho hg
       go_wp2_with fail
       refine (rotate_c lo c n g (s : Int) (m : Int) (e : Int) l1 _ HP.out.2.1 (by have := HE.out; omega) (by have := HE.out; omega) (by have := HE.out; omega) (by have := HE.out; omega) hn).mono ?_
       rintro e w2 ⟨rfl, hs⟩
       have HS2 : Hid (Srt lo c n g l w w2) := ⟨by obtain ⟨⟨l2, h3, h4⟩, _⟩ := hs; exact ⟨l2, h3.trans HP.out.1, h4⟩, HP.out.2.2.trans hs.grown⟩
       clear hs
       go_wp2
       go_meet
       exact HS2
      ·
       rw [decide_eq_false q]
       go_wp2
       go_meet
       exact HS
     case rest =>
      clear HS
      have HS := hcut
      clear hcut
      generalize wc = wr at *
      go_upto_region 41 with fail
      go_cut [199] from 192 (fun bv wx => bv = .bool (decide (a < s ∧ s < d)) ∧ wr = wx)
      case first =>
       by_cases q1 : a < s
       ·
        have f1 : (a : Int) < (s : Int) := (by have := HE.out; omega)
        by_cases q2 : s < d
        ·
         have f2 : (s : Int) < (d : Int) := (by have := HE.out; omega)
         go_wp2
         go_meet
         exact ⟨by rw [decide_eq_true ⟨q1, q2⟩], rfl⟩
        ·
         have f2 : ¬ (s : Int) < (d : Int) := (by have := HE.out; omega)
         go_wp2
         go_meet
         exact ⟨by rw [decide_eq_false (fun h => q2 h.2)], rfl⟩
       ·
        have f1 : ¬ (a : Int) < (s : Int) := (by have := HE.out; omega)
        go_wp2
        go_meet
        exact ⟨by rw [decide_eq_false (fun h => q1 h.1)], rfl⟩
      case rest =>
       obtain ⟨rfl, rfl⟩ := hcut
       go_upto_if 199 with fail
       go_cut [] from 199 (fun wx => Hid (Srt lo c n g l w wx))
       case first =>
        by_cases q : a < s ∧ s < d
        ·
         rw [decide_eq_true q]
         obtain ⟨qa, qb⟩ := q
         obtain ⟨⟨l1, hp, ho⟩, hg⟩ := HS.out
         have HP := Lib.hid (And.intro hp (And.intro ho hg))
         clear hp ho hg
         go_wp2_with fail
         refine (IH.out a s d l1 _ (by have := HE.out; omega) (by have := HE.out; omega) (by have := HE.out; omega) (by have := HE.out; omega) (by have := HE.out; omega) HP.out.2.1).mono ?_
         rintro e w2 ⟨rfl, hs⟩
         have HS2 : Hid (Srt lo c n g l w w2) := ⟨by obtain ⟨⟨l2, h3, h4⟩, _⟩ := hs; exact ⟨l2, h3.trans HP.out.1, h4⟩, HP.out.2.2.trans hs.grown⟩
         clear hs
         go_wp2
         go_meet
         exact HS2
        ·
         rw [decide_eq_false q]
         go_wp2
         go_meet
         exact HS
       case rest =>
        clear HS
        have HS := hcut
        clear hcut
        generalize wc = wr at *
        go_upto_region 43 with fail
        go_cut [213] from 206 (fun bv wx => bv = .bool (decide (d < e ∧ e < b)) ∧ wr = wx)
        case first =>
         by_cases q1 : d < e
         ·
          have f1 : (d : Int) < (e : Int) := (by have := HE.out; omega)
          by_cases q2 : e < b
          ·
           have f2 : (e : Int) < (b : Int) := (by have := HE.out; omega)
           go_wp2
           go_meet
           exact ⟨by rw [decide_eq_true ⟨q1, q2⟩], rfl⟩
          ·
           have f2 : ¬ (e : Int) < (b : Int) := (by have := HE.out; omega)
           go_wp2
           go_meet
           exact ⟨by rw [decide_eq_false (fun h => q2 h.2)], rfl⟩
         ·
          have f1 : ¬ (d : Int) < (e : Int) := (by have := HE.out; omega)
          go_wp2
          go_meet
          exact ⟨by rw [decide_eq_false (fun h => q1 h.1)], rfl⟩
        case rest =>
         obtain ⟨rfl, rfl⟩ := hcut
         by_cases q : d < e ∧ e < b
         ·
          rw [decide_eq_true q]
          obtain ⟨qa, qb⟩ := q
          obtain ⟨⟨l1, hp, ho⟩, hg⟩ := HS.out
          have HP := Lib.hid (And.intro hp (And.intro ho hg))
          clear hp ho hg
          go_wp2_with fail
          refine (IH.out d e b l1 _ (by have := HE.out; omega) (by have := HE.out; omega) (by have := HE.out; omega) (by have := HE.out; omega) (by have := HE.out; omega) HP.out.2.1).mono ?_
          rintro ee w2 ⟨rfl, hs⟩
          have HS2 : Hid (Srt lo c n g l w w2) := ⟨by obtain ⟨⟨l2, h3, h4⟩, _⟩ := hs; exact ⟨l2, h3.trans HP.out.1, h4⟩, HP.out.2.2.trans hs.grown⟩
          clear hs
          go_wp2
          refine bodyPost_end (results_none rfl _ _ _) rfl ?_
          exact ⟨rfl, HS2.out⟩
         ·
          rw [decide_eq_false q]
          go_wp2
          refine bodyPost_end (results_none rfl _ _ _) rfl ?_
          exact ⟨rfl, HS.out⟩
end Go.Proofs.YtkfkjdpkkagjgaaGreat
