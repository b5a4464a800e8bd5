/-
  Two neighbouring ranges merged, one of them of one sum.
-/
import Derived.Test.YtkfkjdpkkagjgaaGreatSrtD
import Derived.Test.YtkfkjdpkkagjgaaGreatSrtC
namespace Go.Proofs.YtkfkjdpkkagjgaaGreat
set_option maxRecDepth 20000
open Go.RowKit
set_option linter.unusedVariables false
set_option maxHeartbeats 12800000 in
theorem symMerge_one (lo c n g : Nat) (hn : n ≤ 1000) (a m b : Nat) (l : List Cv) (w : World) (am : a < m) (mb : m < b) (bn : b ≤ n) (h : OwnC w lo (some ⟨g, 0, none⟩) c n l) (h1 : m = a + 1) :
  Calls Tryz.prog 99 #[.slice (some ⟨g, 0, none⟩) n c, .int .i64 (a : Int), .int .i64 (m : Int), .int .i64 (b : Int), .func (.func 57) #[] #[]] w fun e w' => e = .returned (.tuple #[]) ∧ Srt lo c n g l w w' := by
 have HS := Lib.hid (Srt.start h)
 have a0 : (0 : Int) ≤ (a : Int) := by omega
 have m0 : (0 : Int) ≤ (m : Int) := by omega
 have b0 : (0 : Int) ≤ (b : Int) := by omega
 have b9 : (b : Int) ≤ 1000 := by omega
 have a9 : (a : Int) ≤ 1000 := by omega
 have m9 : (m : Int) ≤ 1000 := by omega
 have n9 : (n : Int) ≤ 1000 := by omega
 have an : (a : Int) < (n : Int) := by omega
 have mn : (m : Int) < (n : Int) := by omega
 clear h
 have he : (m : Int) - (a : Int) = 1 := by omega
 have hb1 : ((m : Int) - (a : Int) == 1) = true := by rw [beq_iff_eq]; omega
 have H1 := Lib.hid h1
 clear h1
 go_enter Tryz.func99, Tryz.ntmps99
 go_wp2
 go_loopw [10, 11] (fun iv jv wr => ∃ i j : Nat, m ≤ i ∧ i ≤ j ∧ j ≤ b ∧ iv = .int .i64 i ∧ jv = .int .i64 j ∧ Hid (Srt lo c n g l w wr)) (fun iv jv _ => (intOf jv).toNat - (intOf iv).toNat)
 case atStart => exact ⟨m, b, by omega, by omega, by omega, rfl, rfl, HS⟩
 case round =>
  clear HS
  obtain ⟨i, j, hi, hij, hj, rfl, rfl, HS⟩ := hrel
  have i0 : (0 : Int) ≤ (i : Int) := by omega
  have j0 : (0 : Int) ≤ (j : Int) := by omega
  have j9 : (j : Int) ≤ 1000 := by omega
  have i9 : (i : Int) ≤ 1000 := by omega
  by_cases hlt : i < j
  ·
   have i1 : (i : Int) < (j : Int) := by omega
   go_wp2_with fail
   have hP1 : (i : Int) ≤ ((i : Int) + (j : Int)) / 2 := by omega
   have hP2 : ((i : Int) + (j : Int)) / 2 < (j : Int) := by omega
   generalize ((i : Int) + (j : Int)) / 2 = P at *
   obtain ⟨p, rfl⟩ := Int.eq_ofNat_of_zero_le (show 0 ≤ P by omega)
   have p0 : (0 : Int) ≤ (p : Int) := by omega
   have p1 : (p : Int) < (n : Int) := by omega
   have p2 : p < n := by omega
   have a2 : a < n := by omega
   obtain ⟨⟨l1, hp, ho⟩, hg⟩ := HS.out
   obtain ⟨u, hu⟩ : ∃ u, l1[p]? = some u := ⟨_, List.getElem?_eq_getElem (by rw [ho.len]; omega)⟩
   obtain ⟨v, hv⟩ : ∃ v, l1[a]? = some v := ⟨_, List.getElem?_eq_getElem (by rw [ho.len]; omega)⟩
   obtain ⟨g', eg, _, hgw, hc⟩ := ho.mem (by omega)
   injection eg with eg
   injection eg with eg _ _
   subst eg
   obtain ⟨u0, u1, u2, u3, u4⟩ := hc _ _ hu
   obtain ⟨v0, v1, v2, v3, v4⟩ := hc _ _ hv
   have HGW := Lib.hid hgw
   clear hc hu hv hp ho hg hgw
   refine wp_region_held_drew (S := fun w' => w'.cell? ⟨g, p * 5, none⟩ = some (.int .i64 u.s) ∧ w'.cell? ⟨g, p * 5 + 1, none⟩ = some (.slice u.A u.n u.c) ∧ w'.cell? ⟨g, p * 5 + 2, none⟩ = some (.bool u.K.s) ∧ w'.cell? ⟨g, p * 5 + 3, none⟩ = some (.slice u.K.A u.K.n u.K.c) ∧ w'.cell? ⟨g, p * 5 + 4, none⟩ = some (.slice u.K.B u.K.m u.K.d) ∧ w'.cell? ⟨g, a * 5, none⟩ = some (.int .i64 v.s) ∧ w'.cell? ⟨g, a * 5 + 1, none⟩ = some (.slice v.A v.n v.c) ∧ w'.cell? ⟨g, a * 5 + 2, none⟩ = some (.bool v.K.s) ∧ w'.cell? ⟨g, a * 5 + 3, none⟩ = some (.slice v.K.A v.K.n v.K.c) ∧ w'.cell? ⟨g, a * 5 + 4, none⟩ = some (.slice v.K.B v.K.m v.K.d)) (by kernel_rfl) ?_ (fun hHeld => ?_)
   ·
    (try dsimp only)
    go_keep
   refine wpAnyH_take (i := 0) (oi := { dst := some 40, op := Op.move (Operand.tmp 4), type := 81, pos := "zsortanyfunc.go:390", after := #[], guard := none }) (v := ?vq60x) rfl (by kernel_rfl) (by kernel_rfl) (by kernel_rfl) (fun _ _ _ h => h) (Or.inl ⟨by rfl, ?hyq60x⟩) (by assumption) ?restq60x
   case hyq60x => intro w hSw; (try dsimp only at hSw); go_simp; all_goals (with_reducible rfl)
   try simp only [Act.put, zA, zB, zC]
   refine wpAnyH_take (i := 1) (oi := { dst := some 41, op := Op.move (Operand.tmp 0), type := 22, pos := "zsortanyfunc.go:390", after := #[], guard := none }) (v := ?vq61x) rfl (by kernel_rfl) (by kernel_rfl) (by kernel_rfl) (fun _ _ _ h => h) (Or.inl ⟨by rfl, ?hyq61x⟩) (by assumption) ?restq61x
   case hyq61x => intro w hSw; (try dsimp only at hSw); go_simp; all_goals (with_reducible rfl)
   try simp only [Act.put, zA, zB, zC]
   refine wpAnyH_take (i := 2) (oi := { dst := some 42, op := Op.move (Operand.tmp 12), type := 3, pos := "zsortanyfunc.go:390", after := #[], guard := none }) (v := ?vq62x) rfl (by kernel_rfl) (by kernel_rfl) (by kernel_rfl) (fun _ _ _ h => h) (Or.inl ⟨by rfl, ?hyq62x⟩) (by assumption) ?restq62x
   case hyq62x => intro w hSw; (try dsimp only at hSw); go_simp; all_goals (with_reducible rfl)
   try simp only [Act.put, zA, zB, zC]
   refine wpAnyH_take (i := 3) (oi := { dst := some 43, op := Op.indexAddr 22 (Operand.tmp 41) (Operand.tmp 42), type := 0, pos := "zsortanyfunc.go:390", after := #[eD 1, eD 2], guard := none }) (v := ?vq63x) rfl (by kernel_rfl) (by kernel_rfl) (by kernel_rfl) (fun _ _ _ h => h) (Or.inl ⟨by rfl, ?hyq63x⟩) (by assumption) ?restq63x
   case hyq63x => intro w hSw; (try dsimp only at hSw); go_simp; all_goals (with_reducible rfl)
   try simp only [Act.put, zA, zB, zC]
   refine wpAnyH_take (i := 4) (oi := { dst := some 44, op := Op.load 28 (Operand.tmp 43), type := 28, pos := "zsortanyfunc.go:390", after := #[eD 3], guard := none }) (v := ?vq64x) rfl (by kernel_rfl) (by kernel_rfl) (by kernel_rfl) (fun _ _ _ h => h) (Or.inl ⟨by rfl, ?hyq64x⟩) (by assumption) ?restq64x
   case hyq64x => intro w hSw; (try dsimp only at hSw); go_simp; all_goals (with_reducible rfl)
   try simp only [Act.put, zA, zB, zC]
   refine wpAnyH_take (i := 5) (oi := { dst := some 45, op := Op.move (Operand.tmp 0), type := 22, pos := "zsortanyfunc.go:390", after := #[], guard := none }) (v := ?vq65x) rfl (by kernel_rfl) (by kernel_rfl) (by kernel_rfl) (fun _ _ _ h => h) (Or.inl ⟨by rfl, ?hyq65x⟩) (by assumption) ?restq65x
   case hyq65x => intro w hSw; (try dsimp only at hSw); go_simp; all_goals (with_reducible rfl)
   try simp only [Act.put, zA, zB, zC]
   refine wpAnyH_take (i := 6) (oi := { dst := some 46, op := Op.move (Operand.tmp 1), type := 3, pos := "zsortanyfunc.go:390", after := #[], guard := none }) (v := ?vq66x) rfl (by kernel_rfl) (by kernel_rfl) (by kernel_rfl) (fun _ _ _ h => h) (Or.inl ⟨by rfl, ?hyq66x⟩) (by assumption) ?restq66x
   case hyq66x => intro w hSw; (try dsimp only at hSw); go_simp; all_goals (with_reducible rfl)
   try simp only [Act.put, zA, zB, zC]
   refine wpAnyH_take (i := 7) (oi := { dst := some 47, op := Op.indexAddr 22 (Operand.tmp 45) (Operand.tmp 46), type := 0, pos := "zsortanyfunc.go:390", after := #[eD 5, eD 6], guard := none }) (v := ?vq67x) rfl (by kernel_rfl) (by kernel_rfl) (by kernel_rfl) (fun _ _ _ h => h) (Or.inl ⟨by rfl, ?hyq67x⟩) (by assumption) ?restq67x
   case hyq67x => intro w hSw; (try dsimp only at hSw); go_simp; all_goals (with_reducible rfl)
   try simp only [Act.put, zA, zB, zC]
   refine wpAnyH_take (i := 8) (oi := { dst := some 48, op := Op.load 28 (Operand.tmp 47), type := 28, pos := "zsortanyfunc.go:390", after := #[eD 7], guard := none }) (v := ?vq68x) rfl (by kernel_rfl) (by kernel_rfl) (by kernel_rfl) (fun _ _ _ h => h) (Or.inl ⟨by rfl, ?hyq68x⟩) (by assumption) ?restq68x
   case hyq68x => intro w hSw; (try dsimp only at hSw); go_simp; all_goals (with_reducible rfl)
   try simp only [Act.put, zA, zB, zC]
   refine wpAnyH_ready (rs := [9]) (by kernel_rfl) (by simp) ?_
   refine AllReadyH.cons (o := { dst := some 49, op := Op.call { callee := Callee.value (Operand.tmp 40), args := #[Operand.tmp 44, Operand.tmp 48], argTypes := #[28, 28] }, type := 3, pos := "zsortanyfunc.go:390", after := #[eD 0, eD 4, eD 8], guard := none }) rfl (fun K hK => ?_) AllReadyH.nil
   try go_simp
   go_at_call 57
   refine (lit_c _ _ _).mono ?_
   rintro e w2 ⟨kk, rfl, hk1, hk2, hb⟩
   have hbk := hb.block g (by show g < wr.heap.size; exact HGW.out)
   replace u0 := (World.cell?_of_block hbk).trans u0
   replace u1 := (World.cell?_of_block hbk).trans u1
   replace u2 := (World.cell?_of_block hbk).trans u2
   replace u3 := (World.cell?_of_block hbk).trans u3
   replace u4 := (World.cell?_of_block hbk).trans u4
   replace v0 := (World.cell?_of_block hbk).trans v0
   replace v1 := (World.cell?_of_block hbk).trans v1
   replace v2 := (World.cell?_of_block hbk).trans v2
   replace v3 := (World.cell?_of_block hbk).trans v3
   replace v4 := (World.cell?_of_block hbk).trans v4
   have HS2 := Lib.hid (HS.out.below ((bel1 wr).trans hb))
   clear hb hbk
   try go_wp2_with fail
   refine hK.out _ _ ?_ (fun hHeld2 => ?_)
   ·
    (try dsimp only)
    go_keep
   clear hK K hHeld
   have hHeld := hHeld2
   clear hHeld2
   try simp only [Act.put, zA, zB, zC]
   refine wpAnyH_take (i := 10) (oi := { dst := some 50, op := Op.binOp BinOp.lss 3 (Operand.tmp 49) (Operand.const (Value.int IntKind.i64 0)) 3, type := 4, pos := "zsortanyfunc.go:390", after := #[eD 9], guard := none }) (v := ?vq69x) rfl (by kernel_rfl) (by kernel_rfl) (by kernel_rfl) (fun _ _ _ h => h) (Or.inl ⟨by rfl, ?hyq69x⟩) (by assumption) ?restq69x
   case hyq69x => intro w hSw; (try dsimp only at hSw); go_simp; all_goals (with_reducible rfl)
   try simp only [Act.put, zA, zB, zC]
   refine wpAnyH_done (by kernel_rfl) ?_ _
   clear hHeld u0 u1 u2 u3 u4 v0 v1 v2 v3 v4 HS
   by_cases hk : kk < 0
   ·
    go_wp2
    go_roundw
    case rel => exact ⟨p + 1, j, by omega, by omega, by omega, by go_num, rfl, HS2⟩
    case measure => simp [intOf]; omega
   ·
    go_wp2
    go_roundw
    case rel => exact ⟨i, p, by omega, by omega, by omega, rfl, rfl, HS2⟩
    case measure => simp [intOf]; omega
  ·
   have i1 : ¬ (i : Int) < (j : Int) := by omega
   go_wp2
   go_loopw [13] (fun kv wr => ∃ k : Nat, a ≤ k ∧ k ≤ i ∧ kv = .int .i64 k ∧ Hid (Srt lo c n g l w wr)) (fun kv _ => i - (intOf kv).toNat)
   case atStart => exact ⟨a, by omega, by omega, rfl, HS⟩
   case round =>
    clear HS
    obtain ⟨p, hk1, hk2, rfl, HS⟩ := hrel
    have p0 : (0 : Int) ≤ (p : Int) := by omega
    have p9 : (p : Int) ≤ 1000 := by omega
    by_cases hlk : p + 1 < i
    ·
     have k1 : (p : Int) < (i : Int) - 1 := by omega
     obtain ⟨q, hqe⟩ : ∃ q, q = p + 1 := ⟨_, rfl⟩
     have q0 : (0 : Int) ≤ (q : Int) := by omega
     have q1 : (q : Int) < (n : Int) := by omega
     have p1 : (p : Int) < (n : Int) := by omega
     have wq : IntKind.i64.wrap ((p : Int) + 1) = (q : Int) := by rw [IntKind.wrap_i64] <;> omega
     have HQ := Lib.hid hqe
     have hql : q < n := by omega
     have hpl : p < n := by omega
     clear hqe
     go_wp2_with fail
     obtain ⟨⟨l1, hp, ho⟩, hg⟩ := HS.out
     obtain ⟨u, hu⟩ : ∃ u, l1[p]? = some u := ⟨_, List.getElem?_eq_getElem (by rw [ho.len]; omega)⟩
     obtain ⟨v, hv⟩ : ∃ v, l1[q]? = some v := ⟨_, List.getElem?_eq_getElem (by rw [ho.len]; omega)⟩
     obtain ⟨x, hx⟩ : ∃ x, (l1.set p v)[q]? = some x := ⟨_, List.getElem?_eq_getElem (by rw [List.length_set, ho.len]; omega)⟩
     have ho1 : OwnC ((((((wr.setCell ⟨g, p * 5, none⟩ (.int .i64 v.s)).setCell ⟨g, p * 5 + 1, none⟩ (.slice v.A v.n v.c)).setCell ⟨g, p * 5 + 2, none⟩ (.bool v.K.s)).setCell ⟨g, p * 5 + 3, none⟩ (.slice v.K.A v.K.n v.K.c)).setCell ⟨g, p * 5 + 4, none⟩ (.slice v.K.B v.K.m v.K.d)).drew) lo (some ⟨g, 0, none⟩) c n (l1.set p v) := (ho.set (j := p) (t := v)).below (bel1 _)
     have HSW : Hid (Srt lo c n g l w (((((((((((wr.setCell ⟨g, p * 5, none⟩ (.int .i64 v.s)).setCell ⟨g, p * 5 + 1, none⟩ (.slice v.A v.n v.c)).setCell ⟨g, p * 5 + 2, none⟩ (.bool v.K.s)).setCell ⟨g, p * 5 + 3, none⟩ (.slice v.K.A v.K.n v.K.c)).setCell ⟨g, p * 5 + 4, none⟩ (.slice v.K.B v.K.m v.K.d)).drew).setCell ⟨g, q * 5, none⟩ (.int .i64 u.s)).setCell ⟨g, q * 5 + 1, none⟩ (.slice u.A u.n u.c)).setCell ⟨g, q * 5 + 2, none⟩ (.bool u.K.s)).setCell ⟨g, q * 5 + 3, none⟩ (.slice u.K.A u.K.n u.K.c)).setCell ⟨g, q * 5 + 4, none⟩ (.slice u.K.B u.K.m u.K.d))) := by
      obtain ⟨h1, rfl⟩ := List.getElem?_eq_some_iff.1 hu
      obtain ⟨h2, rfl⟩ := List.getElem?_eq_some_iff.1 hv
      exact ⟨⟨_, (List.set_set_perm h1 h2).trans hp, ho1.set⟩, (hg.trans ((putC_grown wr g (p * 5) _).trans (grown_row (bel1 _) _))).trans (putC_grown _ g (q * 5) _)⟩
     obtain ⟨g', eg, _, _, hc⟩ := ho.mem (by omega)
     injection eg with eg
     injection eg with eg _ _
     subst eg
     obtain ⟨u0, u1, u2, u3, u4⟩ := hc _ _ hu
     obtain ⟨v0, v1, v2, v3, v4⟩ := hc _ _ hv
     obtain ⟨g', eg, _, _, hc1⟩ := ho1.mem (by omega)
     injection eg with eg
     injection eg with eg _ _
     subst eg
     obtain ⟨x0, x1, x2, x3, x4⟩ := hc1 _ _ hx
     have t0 := ho.thaw (p * 5)
     have t1 := ho.thaw (p * 5 + 1)
     have t2 := ho.thaw (p * 5 + 2)
     have t3 := ho.thaw (p * 5 + 3)
     have t4 := ho.thaw (p * 5 + 4)
     have s0 := ho1.thaw (q * 5)
     have s1 := ho1.thaw (q * 5 + 1)
     have s2 := ho1.thaw (q * 5 + 2)
     have s3 := ho1.thaw (q * 5 + 3)
     have s4 := ho1.thaw (q * 5 + 4)
     clear hc hc1 hu hv hx hp ho ho1 hg
     refine wp_region_held_drew (S := fun _ => True) (by kernel_rfl) ?_ (fun hHeld => ?_)
     · exact True.intro
     refine wpAnyH_take (i := 0) (oi := { dst := some 61, op := Op.move (Operand.tmp 0), type := 22, pos := "zsortanyfunc.go:398", after := #[], guard := none }) (v := ?vq70x) rfl (by kernel_rfl) (by kernel_rfl) (by kernel_rfl) (fun _ _ _ h => h) (Or.inl ⟨by rfl, ?hyq70x⟩) (by assumption) ?restq70x
     case hyq70x => intro w hSw; (try dsimp only at hSw); go_simp; all_goals (with_reducible rfl)
     try simp only [Act.put, zA, zB, zC]
     refine wpAnyH_take (i := 1) (oi := { dst := some 62, op := Op.move (Operand.tmp 13), type := 3, pos := "zsortanyfunc.go:398", after := #[], guard := none }) (v := ?vq71x) rfl (by kernel_rfl) (by kernel_rfl) (by kernel_rfl) (fun _ _ _ h => h) (Or.inl ⟨by rfl, ?hyq71x⟩) (by assumption) ?restq71x
     case hyq71x => intro w hSw; (try dsimp only at hSw); go_simp; all_goals (with_reducible rfl)
     try simp only [Act.put, zA, zB, zC]
     refine wpAnyH_take (i := 2) (oi := { dst := some 63, op := Op.move (Operand.tmp 0), type := 22, pos := "zsortanyfunc.go:398", after := #[{ on := 15, ground := Ground.gcOnly Departure.lateStores }], guard := none }) (v := ?vq72x) rfl (by kernel_rfl) (by kernel_rfl) (by kernel_rfl) (fun _ _ _ h => h) (Or.inl ⟨by rfl, ?hyq72x⟩) (by assumption) ?restq72x
     case hyq72x => intro w hSw; (try dsimp only at hSw); go_simp; all_goals (with_reducible rfl)
     try simp only [Act.put, zA, zB, zC]
     refine wpAnyH_take (i := 3) (oi := { dst := some 64, op := Op.move (Operand.tmp 13), type := 3, pos := "zsortanyfunc.go:398", after := #[{ on := 15, ground := Ground.gcOnly Departure.lateStores }], guard := none }) (v := ?vq73x) rfl (by kernel_rfl) (by kernel_rfl) (by kernel_rfl) (fun _ _ _ h => h) (Or.inl ⟨by rfl, ?hyq73x⟩) (by assumption) ?restq73x
     case hyq73x => intro w hSw; (try dsimp only at hSw); go_simp; all_goals (with_reducible rfl)
     try simp only [Act.put, zA, zB, zC]
     refine wpAnyH_take (i := 4) (oi := { dst := some 65, op := Op.binOp BinOp.add 3 (Operand.tmp 64) (Operand.const (Value.int IntKind.i64 1)) 3, type := 3, pos := "zsortanyfunc.go:398", after := #[eD 3, { on := 15, ground := Ground.gcOnly Departure.lateStores }], guard := none }) (v := ?vq74x) rfl (by kernel_rfl) (by kernel_rfl) (by kernel_rfl) (fun _ _ _ h => h) (Or.inl ⟨by rfl, ?hyq74x⟩) (by assumption) ?restq74x
     case hyq74x => intro w hSw; (try dsimp only at hSw); go_simp; all_goals (with_reducible rfl)
     try simp only [Act.put, zA, zB, zC]
     refine wpAnyH_take (i := 5) (oi := { dst := some 66, op := Op.move (Operand.tmp 0), type := 22, pos := "zsortanyfunc.go:398", after := #[], guard := none }) (v := ?vq75x) rfl (by kernel_rfl) (by kernel_rfl) (by kernel_rfl) (fun _ _ _ h => h) (Or.inl ⟨by rfl, ?hyq75x⟩) (by assumption) ?restq75x
     case hyq75x => intro w hSw; (try dsimp only at hSw); go_simp; all_goals (with_reducible rfl)
     try simp only [Act.put, zA, zB, zC]
     refine wpAnyH_take (i := 6) (oi := { dst := some 67, op := Op.move (Operand.tmp 13), type := 3, pos := "zsortanyfunc.go:398", after := #[], guard := none }) (v := ?vq76x) rfl (by kernel_rfl) (by kernel_rfl) (by kernel_rfl) (fun _ _ _ h => h) (Or.inl ⟨by rfl, ?hyq76x⟩) (by assumption) ?restq76x
     case hyq76x => intro w hSw; (try dsimp only at hSw); go_simp; all_goals (with_reducible rfl)
     try simp only [Act.put, zA, zB, zC]
     refine wpAnyH_take (i := 7) (oi := { dst := some 68, op := Op.binOp BinOp.add 3 (Operand.tmp 67) (Operand.const (Value.int IntKind.i64 1)) 3, type := 3, pos := "zsortanyfunc.go:398", after := #[eD 6], guard := none }) (v := ?vq77x) rfl (by kernel_rfl) (by kernel_rfl) (by kernel_rfl) (fun _ _ _ h => h) (Or.inl ⟨by rfl, ?hyq77x⟩) (by assumption) ?restq77x
     case hyq77x => intro w hSw; (try dsimp only at hSw); go_simp; all_goals (with_reducible rfl)
     try simp only [Act.put, zA, zB, zC]
     refine wpAnyH_take (i := 8) (oi := { dst := some 69, op := Op.indexAddr 22 (Operand.tmp 66) (Operand.tmp 68), type := 0, pos := "zsortanyfunc.go:398", after := #[eD 5, eD 7], guard := none }) (v := ?vq78x) rfl (by kernel_rfl) (by kernel_rfl) (by kernel_rfl) (fun _ _ _ h => h) (Or.inl ⟨by rfl, ?hyq78x⟩) (by assumption) ?restq78x
     case hyq78x => intro w hSw; (try dsimp only at hSw); go_simp; all_goals (with_reducible rfl)
     try simp only [Act.put, zA, zB, zC]
     refine wpAnyH_take (i := 10) (oi := { dst := some 71, op := Op.move (Operand.tmp 0), type := 22, pos := "zsortanyfunc.go:398", after := #[], guard := none }) (v := ?vq79x) rfl (by kernel_rfl) (by kernel_rfl) (by kernel_rfl) (fun _ _ _ h => h) (Or.inl ⟨by rfl, ?hyq79x⟩) (by assumption) ?restq79x
     case hyq79x => intro w hSw; (try dsimp only at hSw); go_simp; all_goals (with_reducible rfl)
     try simp only [Act.put, zA, zB, zC]
     refine wpAnyH_take (i := 11) (oi := { dst := some 72, op := Op.move (Operand.tmp 13), type := 3, pos := "zsortanyfunc.go:398", after := #[], guard := none }) (v := ?vq80x) rfl (by kernel_rfl) (by kernel_rfl) (by kernel_rfl) (fun _ _ _ h => h) (Or.inl ⟨by rfl, ?hyq80x⟩) (by assumption) ?restq80x
     case hyq80x => intro w hSw; (try dsimp only at hSw); go_simp; all_goals (with_reducible rfl)
     try simp only [Act.put, zA, zB, zC]
     refine wpAnyH_take (i := 12) (oi := { dst := some 73, op := Op.indexAddr 22 (Operand.tmp 71) (Operand.tmp 72), type := 0, pos := "zsortanyfunc.go:398", after := #[eD 10, eD 11], guard := none }) (v := ?vq81x) rfl (by kernel_rfl) (by kernel_rfl) (by kernel_rfl) (fun _ _ _ h => h) (Or.inl ⟨by rfl, ?hyq81x⟩) (by assumption) ?restq81x
     case hyq81x => intro w hSw; (try dsimp only at hSw); go_simp; all_goals (with_reducible rfl)
     try simp only [Act.put, zA, zB, zC]
     refine wpAnyH_ready (rs := [9, 13]) (by kernel_rfl) (by simp) ?_
     refine AllReadyH.cons (o := { dst := some 70, op := Op.load 28 (Operand.tmp 69), type := 28, pos := "zsortanyfunc.go:398", after := #[eD 8], guard := none }) rfl (fun K hK => ?_) (AllReadyH.cons (o := { dst := some 74, op := Op.load 28 (Operand.tmp 73), type := 28, pos := "zsortanyfunc.go:398", after := #[eD 12], guard := none }) rfl (fun K hK => ?_) AllReadyH.nil)
     ·
      skip
      try go_simp
      try go_wp2_with fail
      refine hK.out _ _ ?_ (fun hHeld => ?_)
      · exact True.intro
      clear hK K
      try simp only [Act.put, zA, zB, zC]
      refine wpAnyH_ready (rs := [13]) (by kernel_rfl) (by simp) ?_
      refine AllReadyH.cons (o := { dst := some 74, op := Op.load 28 (Operand.tmp 73), type := 28, pos := "zsortanyfunc.go:398", after := #[eD 12], guard := none }) rfl (fun K hK => ?_) AllReadyH.nil
      try go_simp
      try go_wp2_with fail
      refine hK.out _ _ ?_ (fun hHeld => ?_)
      · exact True.intro
      clear hK K
      try simp only [Act.put, zA, zB, zC]
      refine wpAnyH_take (i := 14) (oi := { dst := some 75, op := Op.indexAddr 22 (Operand.tmp 61) (Operand.tmp 62), type := 0, pos := "zsortanyfunc.go:398", after := #[eD 0, eD 1, eP 0, eP 1, { on := 2, ground := Ground.textOnly Departure.lateStores }, { on := 3, ground := Ground.textOnly Departure.lateStores }, { on := 4, ground := Ground.textOnly Departure.lateStores }, eP 5, eP 6, eP 7, eP 8, eP 9, { on := 10, ground := Ground.textOnly Departure.lateStores }, { on := 11, ground := Ground.textOnly Departure.lateStores }, { on := 12, ground := Ground.textOnly Departure.lateStoresUnsure }, eP 13], guard := none }) (v := ?vq82x) rfl (by kernel_rfl) (by kernel_rfl) (by kernel_rfl) (fun _ _ _ h => h) (Or.inl ⟨by rfl, ?hyq82x⟩) (by assumption) ?restq82x
      case hyq82x => intro w hSw; (try dsimp only at hSw); go_simp; all_goals (with_reducible rfl)
      try simp only [Act.put, zA, zB, zC]
      refine wpAnyH_ready (rs := [15]) (by kernel_rfl) (by simp) ?_
      refine AllReadyH.cons (o := { dst := none, op := Op.store 28 (Operand.tmp 75) (Operand.tmp 70), type := 0, pos := "zsortanyfunc.go:398", after := #[eD 14, eD 9, eP 0, eP 1, { on := 2, ground := Ground.textOnly Departure.lateStores }, { on := 3, ground := Ground.textOnly Departure.lateStores }, { on := 4, ground := Ground.textOnly Departure.lateStores }, eP 5, eP 6, eP 7, eP 8, eP 9, { on := 10, ground := Ground.textOnly Departure.lateStores }, { on := 11, ground := Ground.textOnly Departure.lateStores }, { on := 12, ground := Ground.textOnly Departure.lateStoresUnsure }, eP 13], guard := none }) rfl (fun K hK => ?_) AllReadyH.nil
      try go_simp
      try go_wp2_with fail
      refine hK.out _ _ ?_ (fun hHeld => ?_)
      · exact True.intro
      clear hK K
      try simp only [Act.put, zA, zB, zC]
      clear u0 u1 u2 u3 u4 v0 v1 v2 v3 v4 t0 t1 t2 t3 t4 HS
      generalize ((((((wr.setCell ⟨g, p * 5, none⟩ (.int .i64 v.s)).setCell ⟨g, p * 5 + 1, none⟩ (.slice v.A v.n v.c)).setCell ⟨g, p * 5 + 2, none⟩ (.bool v.K.s)).setCell ⟨g, p * 5 + 3, none⟩ (.slice v.K.A v.K.n v.K.c)).setCell ⟨g, p * 5 + 4, none⟩ (.slice v.K.B v.K.m v.K.d)).drew) = W1 at *
      refine wpAnyH_take (i := 16) (oi := { dst := some 76, op := Op.indexAddr 22 (Operand.tmp 63) (Operand.tmp 65), type := 0, pos := "zsortanyfunc.go:398", after := #[eD 2, eD 4, eP 0, eP 1, eP 2, eP 3, eP 4, eP 5, eP 6, eP 7, eP 8, eP 9, eP 10, eP 11, eP 12, eP 13, eP 14, eP 15], guard := none }) (v := ?vq83x) rfl (by kernel_rfl) (by kernel_rfl) (by kernel_rfl) (fun _ _ _ h => h) (Or.inl ⟨by rfl, ?hyq83x⟩) (by assumption) ?restq83x
      case hyq83x => intro w hSw; (try dsimp only at hSw); go_simp; all_goals (with_reducible rfl)
      try simp only [Act.put, zA, zB, zC]
      refine wpAnyH_ready (rs := [17]) (by kernel_rfl) (by simp) ?_
      refine AllReadyH.cons (o := { dst := none, op := Op.store 28 (Operand.tmp 76) (Operand.tmp 74), type := 0, pos := "zsortanyfunc.go:398", after := #[eD 16, eD 13, eC 15, eP 0, eP 1, eP 2, eP 3, eP 4, eP 5, eP 6, eP 7, eP 8, eP 9, eP 10, eP 11, eP 12, eP 13, eP 14, eP 15], guard := none }) rfl (fun K hK => ?_) AllReadyH.nil
      try go_simp
      try go_wp2_with fail
      refine hK.out _ _ ?_ (fun hHeld => ?_)
      · exact True.intro
      clear hK K
      try simp only [Act.put, zA, zB, zC]
      refine wpAnyH_done (by kernel_rfl) ?_ _
      go_wp2
      go_roundw
      case rel => exact ⟨q, by have := HQ.out; omega, by have := HQ.out; omega, by go_num, HSW⟩
      case measure => have := HQ.out; simp [intOf]; omega
     ·
      skip
      try go_simp
      try go_wp2_with fail
      refine hK.out _ _ ?_ (fun hHeld => ?_)
      · exact True.intro
      clear hK K
      try simp only [Act.put, zA, zB, zC]
      refine wpAnyH_ready (rs := [9]) (by kernel_rfl) (by simp) ?_
      refine AllReadyH.cons (o := { dst := some 70, op := Op.load 28 (Operand.tmp 69), type := 28, pos := "zsortanyfunc.go:398", after := #[eD 8], guard := none }) rfl (fun K hK => ?_) AllReadyH.nil
      try go_simp
      try go_wp2_with fail
      refine hK.out _ _ ?_ (fun hHeld => ?_)
      · exact True.intro
      clear hK K
      try simp only [Act.put, zA, zB, zC]
      refine wpAnyH_take (i := 14) (oi := { dst := some 75, op := Op.indexAddr 22 (Operand.tmp 61) (Operand.tmp 62), type := 0, pos := "zsortanyfunc.go:398", after := #[eD 0, eD 1, eP 0, eP 1, { on := 2, ground := Ground.textOnly Departure.lateStores }, { on := 3, ground := Ground.textOnly Departure.lateStores }, { on := 4, ground := Ground.textOnly Departure.lateStores }, eP 5, eP 6, eP 7, eP 8, eP 9, { on := 10, ground := Ground.textOnly Departure.lateStores }, { on := 11, ground := Ground.textOnly Departure.lateStores }, { on := 12, ground := Ground.textOnly Departure.lateStoresUnsure }, eP 13], guard := none }) (v := ?vq84x) rfl (by kernel_rfl) (by kernel_rfl) (by kernel_rfl) (fun _ _ _ h => h) (Or.inl ⟨by rfl, ?hyq84x⟩) (by assumption) ?restq84x
      case hyq84x => intro w hSw; (try dsimp only at hSw); go_simp; all_goals (with_reducible rfl)
      try simp only [Act.put, zA, zB, zC]
      refine wpAnyH_ready (rs := [15]) (by kernel_rfl) (by simp) ?_
      refine AllReadyH.cons (o := { dst := none, op := Op.store 28 (Operand.tmp 75) (Operand.tmp 70), type := 0, pos := "zsortanyfunc.go:398", after := #[eD 14, eD 9, eP 0, eP 1, { on := 2, ground := Ground.textOnly Departure.lateStores }, { on := 3, ground := Ground.textOnly Departure.lateStores }, { on := 4, ground := Ground.textOnly Departure.lateStores }, eP 5, eP 6, eP 7, eP 8, eP 9, { on := 10, ground := Ground.textOnly Departure.lateStores }, { on := 11, ground := Ground.textOnly Departure.lateStores }, { on := 12, ground := Ground.textOnly Departure.lateStoresUnsure }, eP 13], guard := none }) rfl (fun K hK => ?_) AllReadyH.nil
      try go_simp
      try go_wp2_with fail
      refine hK.out _ _ ?_ (fun hHeld => ?_)
      · exact True.intro
      clear hK K
      try simp only [Act.put, zA, zB, zC]
      clear u0 u1 u2 u3 u4 v0 v1 v2 v3 v4 t0 t1 t2 t3 t4 HS
      generalize ((((((wr.setCell ⟨g, p * 5, none⟩ (.int .i64 v.s)).setCell ⟨g, p * 5 + 1, none⟩ (.slice v.A v.n v.c)).setCell ⟨g, p * 5 + 2, none⟩ (.bool v.K.s)).setCell ⟨g, p * 5 + 3, none⟩ (.slice v.K.A v.K.n v.K.c)).setCell ⟨g, p * 5 + 4, none⟩ (.slice v.K.B v.K.m v.K.d)).drew) = W1 at *
      refine wpAnyH_take (i := 16) (oi := { dst := some 76, op := Op.indexAddr 22 (Operand.tmp 63) (Operand.tmp 65), type := 0, pos := "zsortanyfunc.go:398", after := #[eD 2, eD 4, eP 0, eP 1, eP 2, eP 3, eP 4, eP 5, eP 6, eP 7, eP 8, eP 9, eP 10, eP 11, eP 12, eP 13, eP 14, eP 15], guard := none }) (v := ?vq85x) rfl (by kernel_rfl) (by kernel_rfl) (by kernel_rfl) (fun _ _ _ h => h) (Or.inl ⟨by rfl, ?hyq85x⟩) (by assumption) ?restq85x
      case hyq85x => intro w hSw; (try dsimp only at hSw); go_simp; all_goals (with_reducible rfl)
      try simp only [Act.put, zA, zB, zC]
      refine wpAnyH_ready (rs := [17]) (by kernel_rfl) (by simp) ?_
      refine AllReadyH.cons (o := { dst := none, op := Op.store 28 (Operand.tmp 76) (Operand.tmp 74), type := 0, pos := "zsortanyfunc.go:398", after := #[eD 16, eD 13, eC 15, eP 0, eP 1, eP 2, eP 3, eP 4, eP 5, eP 6, eP 7, eP 8, eP 9, eP 10, eP 11, eP 12, eP 13, eP 14, eP 15], guard := none }) rfl (fun K hK => ?_) AllReadyH.nil
      try go_simp
      try go_wp2_with fail
      refine hK.out _ _ ?_ (fun hHeld => ?_)
      · exact True.intro
      clear hK K
      try simp only [Act.put, zA, zB, zC]
      refine wpAnyH_done (by kernel_rfl) ?_ _
      go_wp2
      go_roundw
      case rel => exact ⟨q, by have := HQ.out; omega, by have := HQ.out; omega, by go_num, HSW⟩
      case measure => have := HQ.out; simp [intOf]; omega
    ·
     have k1 : ¬ (p : Int) < (i : Int) - 1 := by omega
     go_wp2
     refine bodyPost_ret (results_none rfl _ _ _) rfl ?_
     exact ⟨rfl, HS.out⟩
set_option maxHeartbeats 12800000 in
theorem symMerge_two (lo c n g : Nat) (hn : n ≤ 1000) (a m b : Nat) (l : List Cv) (w : World) (am : a < m) (mb : m < b) (bn : b ≤ n) (h : OwnC w lo (some ⟨g, 0, none⟩) c n l) (h1 : m ≠ a + 1) (h2 : b = m + 1) :
  Calls Tryz.prog 99 #[.slice (some ⟨g, 0, none⟩) n c, .int .i64 (a : Int), .int .i64 (m : Int), .int .i64 (b : Int), .func (.func 57) #[] #[]] w fun e w' => e = .returned (.tuple #[]) ∧ Srt lo c n g l w w' := by
 have HS := Lib.hid (Srt.start h)
 have a0 : (0 : Int) ≤ (a : Int) := by omega
 have m0 : (0 : Int) ≤ (m : Int) := by omega
 have b0 : (0 : Int) ≤ (b : Int) := by omega
 have b9 : (b : Int) ≤ 1000 := by omega
 have a9 : (a : Int) ≤ 1000 := by omega
 have m9 : (m : Int) ≤ 1000 := by omega
 have n9 : (n : Int) ≤ 1000 := by omega
 have an : (a : Int) < (n : Int) := by omega
 have mn : (m : Int) < (n : Int) := by omega
 clear h
 have he : ¬ (m : Int) - (a : Int) = 1 := by omega
 have hb1 : ((m : Int) - (a : Int) == 1) = false := by rw [beq_eq_false_iff_ne]; omega
 have he2 : (b : Int) - (m : Int) = 1 := by omega
 have hb2 : ((b : Int) - (m : Int) == 1) = true := by rw [beq_iff_eq]; omega
 have H1 := Lib.hid h1
 have H2 := Lib.hid h2
 clear h1 h2
 go_enter Tryz.func99, Tryz.ntmps99
 go_wp2
 go_loopw [14, 15] (fun iv jv wr => ∃ i j : Nat, a ≤ i ∧ i ≤ j ∧ j ≤ m ∧ iv = .int .i64 i ∧ jv = .int .i64 j ∧ Hid (Srt lo c n g l w wr)) (fun iv jv _ => (intOf jv).toNat - (intOf iv).toNat)
 case atStart => exact ⟨a, m, by omega, by omega, by omega, rfl, rfl, HS⟩
 case round =>
  clear HS
  obtain ⟨i, j, hi, hij, hj, rfl, rfl, HS⟩ := hrel
  have i0 : (0 : Int) ≤ (i : Int) := by omega
  have j0 : (0 : Int) ≤ (j : Int) := by omega
  have j9 : (j : Int) ≤ 1000 := by omega
  have i9 : (i : Int) ≤ 1000 := by omega
  by_cases hlt : i < j
  ·
   have i1 : (i : Int) < (j : Int) := by omega
   go_wp2_with fail
   have hP1 : (i : Int) ≤ ((i : Int) + (j : Int)) / 2 := by omega
   have hP2 : ((i : Int) + (j : Int)) / 2 < (j : Int) := by omega
   generalize ((i : Int) + (j : Int)) / 2 = P at *
   obtain ⟨p, rfl⟩ := Int.eq_ofNat_of_zero_le (show 0 ≤ P by omega)
   have p0 : (0 : Int) ≤ (p : Int) := by omega
   have p1 : (p : Int) < (n : Int) := by omega
   have p2 : p < n := by omega
   have m2 : m < n := by omega
   obtain ⟨⟨l1, hp, ho⟩, hg⟩ := HS.out
   obtain ⟨u, hu⟩ : ∃ u, l1[m]? = some u := ⟨_, List.getElem?_eq_getElem (by rw [ho.len]; omega)⟩
   obtain ⟨v, hv⟩ : ∃ v, l1[p]? = some v := ⟨_, List.getElem?_eq_getElem (by rw [ho.len]; omega)⟩
   obtain ⟨g', eg, _, hgw, hc⟩ := ho.mem (by omega)
   injection eg with eg
   injection eg with eg _ _
   subst eg
   obtain ⟨u0, u1, u2, u3, u4⟩ := hc _ _ hu
   obtain ⟨v0, v1, v2, v3, v4⟩ := hc _ _ hv
   have HGW := Lib.hid hgw
   clear hc hu hv hp ho hg hgw
   refine wp_region_held_drew (S := fun w' => w'.cell? ⟨g, m * 5, none⟩ = some (.int .i64 u.s) ∧ w'.cell? ⟨g, m * 5 + 1, none⟩ = some (.slice u.A u.n u.c) ∧ w'.cell? ⟨g, m * 5 + 2, none⟩ = some (.bool u.K.s) ∧ w'.cell? ⟨g, m * 5 + 3, none⟩ = some (.slice u.K.A u.K.n u.K.c) ∧ w'.cell? ⟨g, m * 5 + 4, none⟩ = some (.slice u.K.B u.K.m u.K.d) ∧ w'.cell? ⟨g, p * 5, none⟩ = some (.int .i64 v.s) ∧ w'.cell? ⟨g, p * 5 + 1, none⟩ = some (.slice v.A v.n v.c) ∧ w'.cell? ⟨g, p * 5 + 2, none⟩ = some (.bool v.K.s) ∧ w'.cell? ⟨g, p * 5 + 3, none⟩ = some (.slice v.K.A v.K.n v.K.c) ∧ w'.cell? ⟨g, p * 5 + 4, none⟩ = some (.slice v.K.B v.K.m v.K.d)) (by kernel_rfl) ?_ (fun hHeld => ?_)
   ·
    (try dsimp only)
    go_keep
   refine wpAnyH_take (i := 0) (oi := { dst := some 92, op := Op.move (Operand.tmp 4), type := 81, pos := "zsortanyfunc.go:414", after := #[], guard := none }) (v := ?vq86x) rfl (by kernel_rfl) (by kernel_rfl) (by kernel_rfl) (fun _ _ _ h => h) (Or.inl ⟨by rfl, ?hyq86x⟩) (by assumption) ?restq86x
   case hyq86x => intro w hSw; (try dsimp only at hSw); go_simp; all_goals (with_reducible rfl)
   try simp only [Act.put, zA, zB, zC]
   refine wpAnyH_take (i := 1) (oi := { dst := some 93, op := Op.move (Operand.tmp 0), type := 22, pos := "zsortanyfunc.go:414", after := #[], guard := none }) (v := ?vq87x) rfl (by kernel_rfl) (by kernel_rfl) (by kernel_rfl) (fun _ _ _ h => h) (Or.inl ⟨by rfl, ?hyq87x⟩) (by assumption) ?restq87x
   case hyq87x => intro w hSw; (try dsimp only at hSw); go_simp; all_goals (with_reducible rfl)
   try simp only [Act.put, zA, zB, zC]
   refine wpAnyH_take (i := 2) (oi := { dst := some 94, op := Op.move (Operand.tmp 2), type := 3, pos := "zsortanyfunc.go:414", after := #[], guard := none }) (v := ?vq88x) rfl (by kernel_rfl) (by kernel_rfl) (by kernel_rfl) (fun _ _ _ h => h) (Or.inl ⟨by rfl, ?hyq88x⟩) (by assumption) ?restq88x
   case hyq88x => intro w hSw; (try dsimp only at hSw); go_simp; all_goals (with_reducible rfl)
   try simp only [Act.put, zA, zB, zC]
   refine wpAnyH_take (i := 3) (oi := { dst := some 95, op := Op.indexAddr 22 (Operand.tmp 93) (Operand.tmp 94), type := 0, pos := "zsortanyfunc.go:414", after := #[eD 1, eD 2], guard := none }) (v := ?vq89x) rfl (by kernel_rfl) (by kernel_rfl) (by kernel_rfl) (fun _ _ _ h => h) (Or.inl ⟨by rfl, ?hyq89x⟩) (by assumption) ?restq89x
   case hyq89x => intro w hSw; (try dsimp only at hSw); go_simp; all_goals (with_reducible rfl)
   try simp only [Act.put, zA, zB, zC]
   refine wpAnyH_take (i := 4) (oi := { dst := some 96, op := Op.load 28 (Operand.tmp 95), type := 28, pos := "zsortanyfunc.go:414", after := #[eD 3], guard := none }) (v := ?vq90x) rfl (by kernel_rfl) (by kernel_rfl) (by kernel_rfl) (fun _ _ _ h => h) (Or.inl ⟨by rfl, ?hyq90x⟩) (by assumption) ?restq90x
   case hyq90x => intro w hSw; (try dsimp only at hSw); go_simp; all_goals (with_reducible rfl)
   try simp only [Act.put, zA, zB, zC]
   refine wpAnyH_take (i := 5) (oi := { dst := some 97, op := Op.move (Operand.tmp 0), type := 22, pos := "zsortanyfunc.go:414", after := #[], guard := none }) (v := ?vq91x) rfl (by kernel_rfl) (by kernel_rfl) (by kernel_rfl) (fun _ _ _ h => h) (Or.inl ⟨by rfl, ?hyq91x⟩) (by assumption) ?restq91x
   case hyq91x => intro w hSw; (try dsimp only at hSw); go_simp; all_goals (with_reducible rfl)
   try simp only [Act.put, zA, zB, zC]
   refine wpAnyH_take (i := 6) (oi := { dst := some 98, op := Op.move (Operand.tmp 16), type := 3, pos := "zsortanyfunc.go:414", after := #[], guard := none }) (v := ?vq92x) rfl (by kernel_rfl) (by kernel_rfl) (by kernel_rfl) (fun _ _ _ h => h) (Or.inl ⟨by rfl, ?hyq92x⟩) (by assumption) ?restq92x
   case hyq92x => intro w hSw; (try dsimp only at hSw); go_simp; all_goals (with_reducible rfl)
   try simp only [Act.put, zA, zB, zC]
   refine wpAnyH_take (i := 7) (oi := { dst := some 99, op := Op.indexAddr 22 (Operand.tmp 97) (Operand.tmp 98), type := 0, pos := "zsortanyfunc.go:414", after := #[eD 5, eD 6], guard := none }) (v := ?vq93x) rfl (by kernel_rfl) (by kernel_rfl) (by kernel_rfl) (fun _ _ _ h => h) (Or.inl ⟨by rfl, ?hyq93x⟩) (by assumption) ?restq93x
   case hyq93x => intro w hSw; (try dsimp only at hSw); go_simp; all_goals (with_reducible rfl)
   try simp only [Act.put, zA, zB, zC]
   refine wpAnyH_take (i := 8) (oi := { dst := some 100, op := Op.load 28 (Operand.tmp 99), type := 28, pos := "zsortanyfunc.go:414", after := #[eD 7], guard := none }) (v := ?vq94x) rfl (by kernel_rfl) (by kernel_rfl) (by kernel_rfl) (fun _ _ _ h => h) (Or.inl ⟨by rfl, ?hyq94x⟩) (by assumption) ?restq94x
   case hyq94x => intro w hSw; (try dsimp only at hSw); go_simp; all_goals (with_reducible rfl)
   try simp only [Act.put, zA, zB, zC]
   refine wpAnyH_ready (rs := [9]) (by kernel_rfl) (by simp) ?_
   refine AllReadyH.cons (o := { dst := some 101, op := Op.call { callee := Callee.value (Operand.tmp 92), args := #[Operand.tmp 96, Operand.tmp 100], argTypes := #[28, 28] }, type := 3, pos := "zsortanyfunc.go:414", after := #[eD 0, eD 4, eD 8], guard := none }) rfl (fun K hK => ?_) AllReadyH.nil
   try go_simp
   go_at_call 57
   refine (lit_c _ _ _).mono ?_
   rintro e w2 ⟨kk, rfl, hk1, hk2, hb⟩
   have hbk := hb.block g (by show g < wr.heap.size; exact HGW.out)
   replace u0 := (World.cell?_of_block hbk).trans u0
   replace u1 := (World.cell?_of_block hbk).trans u1
   replace u2 := (World.cell?_of_block hbk).trans u2
   replace u3 := (World.cell?_of_block hbk).trans u3
   replace u4 := (World.cell?_of_block hbk).trans u4
   replace v0 := (World.cell?_of_block hbk).trans v0
   replace v1 := (World.cell?_of_block hbk).trans v1
   replace v2 := (World.cell?_of_block hbk).trans v2
   replace v3 := (World.cell?_of_block hbk).trans v3
   replace v4 := (World.cell?_of_block hbk).trans v4
   have HS2 := Lib.hid (HS.out.below ((bel1 wr).trans hb))
   clear hb hbk
   try go_wp2_with fail
   refine hK.out _ _ ?_ (fun hHeld2 => ?_)
   ·
    (try dsimp only)
    go_keep
   clear hK K hHeld
   have hHeld := hHeld2
   clear hHeld2
   try simp only [Act.put, zA, zB, zC]
   refine wpAnyH_take (i := 10) (oi := { dst := some 102, op := Op.binOp BinOp.lss 3 (Operand.tmp 101) (Operand.const (Value.int IntKind.i64 0)) 3, type := 4, pos := "zsortanyfunc.go:414", after := #[eD 9], guard := none }) (v := ?vq95x) rfl (by kernel_rfl) (by kernel_rfl) (by kernel_rfl) (fun _ _ _ h => h) (Or.inl ⟨by rfl, ?hyq95x⟩) (by assumption) ?restq95x
   case hyq95x => intro w hSw; (try dsimp only at hSw); go_simp; all_goals (with_reducible rfl)
   try simp only [Act.put, zA, zB, zC]
   refine wpAnyH_take (i := 11) (oi := { dst := some 103, op := Op.unOp UnOp.not 4 (Operand.tmp 102), type := 4, pos := "zsortanyfunc.go:414", after := #[eD 10], guard := none }) (v := ?vq96x) rfl (by kernel_rfl) (by kernel_rfl) (by kernel_rfl) (fun _ _ _ h => h) (Or.inl ⟨by rfl, ?hyq96x⟩) (by assumption) ?restq96x
   case hyq96x => intro w hSw; (try dsimp only at hSw); go_simp; all_goals (with_reducible rfl)
   try simp only [Act.put, zA, zB, zC]
   refine wpAnyH_done (by kernel_rfl) ?_ _
   clear hHeld u0 u1 u2 u3 u4 v0 v1 v2 v3 v4 HS
   go_wp2
   all_goals go_roundw
   all_goals first
    | exact ⟨i, p, by omega, by omega, by omega, rfl, rfl, HS2⟩
    | exact ⟨p + 1, j, by omega, by omega, by omega, by go_num, rfl, HS2⟩
    | (simp [intOf]; omega)
  ·
   have i1 : ¬ (i : Int) < (j : Int) := by omega
   go_wp2
   go_loopw [17] (fun kv wr => ∃ k : Nat, i ≤ k ∧ k ≤ m ∧ kv = .int .i64 k ∧ Hid (Srt lo c n g l w wr)) (fun kv _ => (intOf kv).toNat)
   case atStart => exact ⟨m, by omega, by omega, rfl, HS⟩
   case round =>
    clear HS
    obtain ⟨p, hk1, hk2, rfl, HS⟩ := hrel
    have p0 : (0 : Int) ≤ (p : Int) := by omega
    have p9 : (p : Int) ≤ 1000 := by omega
    by_cases hlk : i < p
    ·
     have k1 : (i : Int) < (p : Int) := by omega
     obtain ⟨q, hqe⟩ : ∃ q, q + 1 = p := ⟨p - 1, by omega⟩
     have q0 : (0 : Int) ≤ (q : Int) := by omega
     have q1 : (q : Int) < (n : Int) := by omega
     have p1 : (p : Int) < (n : Int) := by omega
     have wq : IntKind.i64.wrap ((p : Int) - 1) = (q : Int) := by rw [IntKind.wrap_i64] <;> omega
     have HQ := Lib.hid hqe
     have hql : q < n := by omega
     have hpl : p < n := by omega
     clear hqe
     go_wp2_with fail
     obtain ⟨⟨l1, hp, ho⟩, hg⟩ := HS.out
     obtain ⟨u, hu⟩ : ∃ u, l1[p]? = some u := ⟨_, List.getElem?_eq_getElem (by rw [ho.len]; omega)⟩
     obtain ⟨v, hv⟩ : ∃ v, l1[q]? = some v := ⟨_, List.getElem?_eq_getElem (by rw [ho.len]; omega)⟩
     obtain ⟨x, hx⟩ : ∃ x, (l1.set p v)[q]? = some x := ⟨_, List.getElem?_eq_getElem (by rw [List.length_set, ho.len]; omega)⟩
     have ho1 : OwnC ((((((wr.setCell ⟨g, p * 5, none⟩ (.int .i64 v.s)).setCell ⟨g, p * 5 + 1, none⟩ (.slice v.A v.n v.c)).setCell ⟨g, p * 5 + 2, none⟩ (.bool v.K.s)).setCell ⟨g, p * 5 + 3, none⟩ (.slice v.K.A v.K.n v.K.c)).setCell ⟨g, p * 5 + 4, none⟩ (.slice v.K.B v.K.m v.K.d)).drew) lo (some ⟨g, 0, none⟩) c n (l1.set p v) := (ho.set (j := p) (t := v)).below (bel1 _)
     have HSW : Hid (Srt lo c n g l w (((((((((((wr.setCell ⟨g, p * 5, none⟩ (.int .i64 v.s)).setCell ⟨g, p * 5 + 1, none⟩ (.slice v.A v.n v.c)).setCell ⟨g, p * 5 + 2, none⟩ (.bool v.K.s)).setCell ⟨g, p * 5 + 3, none⟩ (.slice v.K.A v.K.n v.K.c)).setCell ⟨g, p * 5 + 4, none⟩ (.slice v.K.B v.K.m v.K.d)).drew).setCell ⟨g, q * 5, none⟩ (.int .i64 u.s)).setCell ⟨g, q * 5 + 1, none⟩ (.slice u.A u.n u.c)).setCell ⟨g, q * 5 + 2, none⟩ (.bool u.K.s)).setCell ⟨g, q * 5 + 3, none⟩ (.slice u.K.A u.K.n u.K.c)).setCell ⟨g, q * 5 + 4, none⟩ (.slice u.K.B u.K.m u.K.d))) := by
      obtain ⟨h1, rfl⟩ := List.getElem?_eq_some_iff.1 hu
      obtain ⟨h2, rfl⟩ := List.getElem?_eq_some_iff.1 hv
      exact ⟨⟨_, (List.set_set_perm h1 h2).trans hp, ho1.set⟩, (hg.trans ((putC_grown wr g (p * 5) _).trans (grown_row (bel1 _) _))).trans (putC_grown _ g (q * 5) _)⟩
     obtain ⟨g', eg, _, _, hc⟩ := ho.mem (by omega)
     injection eg with eg
     injection eg with eg _ _
     subst eg
     obtain ⟨u0, u1, u2, u3, u4⟩ := hc _ _ hu
     obtain ⟨v0, v1, v2, v3, v4⟩ := hc _ _ hv
     obtain ⟨g', eg, _, _, hc1⟩ := ho1.mem (by omega)
     injection eg with eg
     injection eg with eg _ _
     subst eg
     obtain ⟨x0, x1, x2, x3, x4⟩ := hc1 _ _ hx
     have t0 := ho.thaw (p * 5)
     have t1 := ho.thaw (p * 5 + 1)
     have t2 := ho.thaw (p * 5 + 2)
     have t3 := ho.thaw (p * 5 + 3)
     have t4 := ho.thaw (p * 5 + 4)
     have s0 := ho1.thaw (q * 5)
     have s1 := ho1.thaw (q * 5 + 1)
     have s2 := ho1.thaw (q * 5 + 2)
     have s3 := ho1.thaw (q * 5 + 3)
     have s4 := ho1.thaw (q * 5 + 4)
     clear hc hc1 hu hv hx hp ho ho1 hg
     refine wp_region_held_drew (S := fun _ => True) (by kernel_rfl) ?_ (fun hHeld => ?_)
     · exact True.intro
     refine wpAnyH_take (i := 0) (oi := { dst := some 113, op := Op.move (Operand.tmp 0), type := 22, pos := "zsortanyfunc.go:422", after := #[], guard := none }) (v := ?vq97x) rfl (by kernel_rfl) (by kernel_rfl) (by kernel_rfl) (fun _ _ _ h => h) (Or.inl ⟨by rfl, ?hyq97x⟩) (by assumption) ?restq97x
     case hyq97x => intro w hSw; (try dsimp only at hSw); go_simp; all_goals (with_reducible rfl)
     try simp only [Act.put, zA, zB, zC]
     refine wpAnyH_take (i := 1) (oi := { dst := some 114, op := Op.move (Operand.tmp 17), type := 3, pos := "zsortanyfunc.go:422", after := #[], guard := none }) (v := ?vq98x) rfl (by kernel_rfl) (by kernel_rfl) (by kernel_rfl) (fun _ _ _ h => h) (Or.inl ⟨by rfl, ?hyq98x⟩) (by assumption) ?restq98x
     case hyq98x => intro w hSw; (try dsimp only at hSw); go_simp; all_goals (with_reducible rfl)
     try simp only [Act.put, zA, zB, zC]
     refine wpAnyH_take (i := 2) (oi := { dst := some 115, op := Op.move (Operand.tmp 0), type := 22, pos := "zsortanyfunc.go:422", after := #[{ on := 15, ground := Ground.gcOnly Departure.lateStores }], guard := none }) (v := ?vq99x) rfl (by kernel_rfl) (by kernel_rfl) (by kernel_rfl) (fun _ _ _ h => h) (Or.inl ⟨by rfl, ?hyq99x⟩) (by assumption) ?restq99x
     case hyq99x => intro w hSw; (try dsimp only at hSw); go_simp; all_goals (with_reducible rfl)
     try simp only [Act.put, zA, zB, zC]
     refine wpAnyH_take (i := 3) (oi := { dst := some 116, op := Op.move (Operand.tmp 17), type := 3, pos := "zsortanyfunc.go:422", after := #[{ on := 15, ground := Ground.gcOnly Departure.lateStores }], guard := none }) (v := ?vq100x) rfl (by kernel_rfl) (by kernel_rfl) (by kernel_rfl) (fun _ _ _ h => h) (Or.inl ⟨by rfl, ?hyq100x⟩) (by assumption) ?restq100x
     case hyq100x => intro w hSw; (try dsimp only at hSw); go_simp; all_goals (with_reducible rfl)
     try simp only [Act.put, zA, zB, zC]
     refine wpAnyH_take (i := 4) (oi := { dst := some 117, op := Op.binOp BinOp.sub 3 (Operand.tmp 116) (Operand.const (Value.int IntKind.i64 1)) 3, type := 3, pos := "zsortanyfunc.go:422", after := #[eD 3, { on := 15, ground := Ground.gcOnly Departure.lateStores }], guard := none }) (v := ?vq101x) rfl (by kernel_rfl) (by kernel_rfl) (by kernel_rfl) (fun _ _ _ h => h) (Or.inl ⟨by rfl, ?hyq101x⟩) (by assumption) ?restq101x
     case hyq101x => intro w hSw; (try dsimp only at hSw); go_simp; all_goals (with_reducible rfl)
     try simp only [Act.put, zA, zB, zC]
     refine wpAnyH_take (i := 5) (oi := { dst := some 118, op := Op.move (Operand.tmp 0), type := 22, pos := "zsortanyfunc.go:422", after := #[], guard := none }) (v := ?vq102x) rfl (by kernel_rfl) (by kernel_rfl) (by kernel_rfl) (fun _ _ _ h => h) (Or.inl ⟨by rfl, ?hyq102x⟩) (by assumption) ?restq102x
     case hyq102x => intro w hSw; (try dsimp only at hSw); go_simp; all_goals (with_reducible rfl)
     try simp only [Act.put, zA, zB, zC]
     refine wpAnyH_take (i := 6) (oi := { dst := some 119, op := Op.move (Operand.tmp 17), type := 3, pos := "zsortanyfunc.go:422", after := #[], guard := none }) (v := ?vq103x) rfl (by kernel_rfl) (by kernel_rfl) (by kernel_rfl) (fun _ _ _ h => h) (Or.inl ⟨by rfl, ?hyq103x⟩) (by assumption) ?restq103x
     case hyq103x => intro w hSw; (try dsimp only at hSw); go_simp; all_goals (with_reducible rfl)
     try simp only [Act.put, zA, zB, zC]
     refine wpAnyH_take (i := 7) (oi := { dst := some 120, op := Op.binOp BinOp.sub 3 (Operand.tmp 119) (Operand.const (Value.int IntKind.i64 1)) 3, type := 3, pos := "zsortanyfunc.go:422", after := #[eD 6], guard := none }) (v := ?vq104x) rfl (by kernel_rfl) (by kernel_rfl) (by kernel_rfl) (fun _ _ _ h => h) (Or.inl ⟨by rfl, ?hyq104x⟩) (by assumption) ?restq104x
     case hyq104x => intro w hSw; (try dsimp only at hSw); go_simp; all_goals (with_reducible rfl)
     try simp only [Act.put, zA, zB, zC]
     refine wpAnyH_take (i := 8) (oi := { dst := some 121, op := Op.indexAddr 22 (Operand.tmp 118) (Operand.tmp 120), type := 0, pos := "zsortanyfunc.go:422", after := #[eD 5, eD 7], guard := none }) (v := ?vq105x) rfl (by kernel_rfl) (by kernel_rfl) (by kernel_rfl) (fun _ _ _ h => h) (Or.inl ⟨by rfl, ?hyq105x⟩) (by assumption) ?restq105x
     case hyq105x => intro w hSw; (try dsimp only at hSw); go_simp; all_goals (with_reducible rfl)
     try simp only [Act.put, zA, zB, zC]
     refine wpAnyH_take (i := 10) (oi := { dst := some 123, op := Op.move (Operand.tmp 0), type := 22, pos := "zsortanyfunc.go:422", after := #[], guard := none }) (v := ?vq106x) rfl (by kernel_rfl) (by kernel_rfl) (by kernel_rfl) (fun _ _ _ h => h) (Or.inl ⟨by rfl, ?hyq106x⟩) (by assumption) ?restq106x
     case hyq106x => intro w hSw; (try dsimp only at hSw); go_simp; all_goals (with_reducible rfl)
     try simp only [Act.put, zA, zB, zC]
     refine wpAnyH_take (i := 11) (oi := { dst := some 124, op := Op.move (Operand.tmp 17), type := 3, pos := "zsortanyfunc.go:422", after := #[], guard := none }) (v := ?vq107x) rfl (by kernel_rfl) (by kernel_rfl) (by kernel_rfl) (fun _ _ _ h => h) (Or.inl ⟨by rfl, ?hyq107x⟩) (by assumption) ?restq107x
     case hyq107x => intro w hSw; (try dsimp only at hSw); go_simp; all_goals (with_reducible rfl)
     try simp only [Act.put, zA, zB, zC]
     refine wpAnyH_take (i := 12) (oi := { dst := some 125, op := Op.indexAddr 22 (Operand.tmp 123) (Operand.tmp 124), type := 0, pos := "zsortanyfunc.go:422", after := #[eD 10, eD 11], guard := none }) (v := ?vq108x) rfl (by kernel_rfl) (by kernel_rfl) (by kernel_rfl) (fun _ _ _ h => h) (Or.inl ⟨by rfl, ?hyq108x⟩) (by assumption) ?restq108x
     case hyq108x => intro w hSw; (try dsimp only at hSw); go_simp; all_goals (with_reducible rfl)
     try simp only [Act.put, zA, zB, zC]
     refine wpAnyH_ready (rs := [9, 13]) (by kernel_rfl) (by simp) ?_
     refine AllReadyH.cons (o := { dst := some 122, op := Op.load 28 (Operand.tmp 121), type := 28, pos := "zsortanyfunc.go:422", after := #[eD 8], guard := none }) rfl (fun K hK => ?_) (AllReadyH.cons (o := { dst := some 126, op := Op.load 28 (Operand.tmp 125), type := 28, pos := "zsortanyfunc.go:422", after := #[eD 12], guard := none }) rfl (fun K hK => ?_) AllReadyH.nil)
     ·
      skip
      try go_simp
      try go_wp2_with fail
      refine hK.out _ _ ?_ (fun hHeld => ?_)
      · exact True.intro
      clear hK K
      try simp only [Act.put, zA, zB, zC]
      refine wpAnyH_ready (rs := [13]) (by kernel_rfl) (by simp) ?_
      refine AllReadyH.cons (o := { dst := some 126, op := Op.load 28 (Operand.tmp 125), type := 28, pos := "zsortanyfunc.go:422", after := #[eD 12], guard := none }) rfl (fun K hK => ?_) AllReadyH.nil
      try go_simp
      try go_wp2_with fail
      refine hK.out _ _ ?_ (fun hHeld => ?_)
      · exact True.intro
      clear hK K
      try simp only [Act.put, zA, zB, zC]
      refine wpAnyH_take (i := 14) (oi := { dst := some 127, op := Op.indexAddr 22 (Operand.tmp 113) (Operand.tmp 114), type := 0, pos := "zsortanyfunc.go:422", after := #[eD 0, eD 1, eP 0, eP 1, { on := 2, ground := Ground.textOnly Departure.lateStores }, { on := 3, ground := Ground.textOnly Departure.lateStores }, { on := 4, ground := Ground.textOnly Departure.lateStores }, eP 5, eP 6, eP 7, eP 8, eP 9, { on := 10, ground := Ground.textOnly Departure.lateStores }, { on := 11, ground := Ground.textOnly Departure.lateStores }, { on := 12, ground := Ground.textOnly Departure.lateStoresUnsure }, eP 13], guard := none }) (v := ?vq109x) rfl (by kernel_rfl) (by kernel_rfl) (by kernel_rfl) (fun _ _ _ h => h) (Or.inl ⟨by rfl, ?hyq109x⟩) (by assumption) ?restq109x
      case hyq109x => intro w hSw; (try dsimp only at hSw); go_simp; all_goals (with_reducible rfl)
      try simp only [Act.put, zA, zB, zC]
      refine wpAnyH_ready (rs := [15]) (by kernel_rfl) (by simp) ?_
      refine AllReadyH.cons (o := { dst := none, op := Op.store 28 (Operand.tmp 127) (Operand.tmp 122), type := 0, pos := "zsortanyfunc.go:422", after := #[eD 14, eD 9, eP 0, eP 1, { on := 2, ground := Ground.textOnly Departure.lateStores }, { on := 3, ground := Ground.textOnly Departure.lateStores }, { on := 4, ground := Ground.textOnly Departure.lateStores }, eP 5, eP 6, eP 7, eP 8, eP 9, { on := 10, ground := Ground.textOnly Departure.lateStores }, { on := 11, ground := Ground.textOnly Departure.lateStores }, { on := 12, ground := Ground.textOnly Departure.lateStoresUnsure }, eP 13], guard := none }) rfl (fun K hK => ?_) AllReadyH.nil
      try go_simp
      try go_wp2_with fail
      refine hK.out _ _ ?_ (fun hHeld => ?_)
      · exact True.intro
      clear hK K
      try simp only [Act.put, zA, zB, zC]
      clear u0 u1 u2 u3 u4 v0 v1 v2 v3 v4 t0 t1 t2 t3 t4 HS
      generalize ((((((wr.setCell ⟨g, p * 5, none⟩ (.int .i64 v.s)).setCell ⟨g, p * 5 + 1, none⟩ (.slice v.A v.n v.c)).setCell ⟨g, p * 5 + 2, none⟩ (.bool v.K.s)).setCell ⟨g, p * 5 + 3, none⟩ (.slice v.K.A v.K.n v.K.c)).setCell ⟨g, p * 5 + 4, none⟩ (.slice v.K.B v.K.m v.K.d)).drew) = W1 at *
      refine wpAnyH_take (i := 16) (oi := { dst := some 128, op := Op.indexAddr 22 (Operand.tmp 115) (Operand.tmp 117), type := 0, pos := "zsortanyfunc.go:422", after := #[eD 2, eD 4, eP 0, eP 1, eP 2, eP 3, eP 4, eP 5, eP 6, eP 7, eP 8, eP 9, eP 10, eP 11, eP 12, eP 13, eP 14, eP 15], guard := none }) (v := ?vq110x) rfl (by kernel_rfl) (by kernel_rfl) (by kernel_rfl) (fun _ _ _ h => h) (Or.inl ⟨by rfl, ?hyq110x⟩) (by assumption) ?restq110x
      case hyq110x => intro w hSw; (try dsimp only at hSw); go_simp; all_goals (with_reducible rfl)
      try simp only [Act.put, zA, zB, zC]
      refine wpAnyH_ready (rs := [17]) (by kernel_rfl) (by simp) ?_
      refine AllReadyH.cons (o := { dst := none, op := Op.store 28 (Operand.tmp 128) (Operand.tmp 126), type := 0, pos := "zsortanyfunc.go:422", after := #[eD 16, eD 13, eC 15, eP 0, eP 1, eP 2, eP 3, eP 4, eP 5, eP 6, eP 7, eP 8, eP 9, eP 10, eP 11, eP 12, eP 13, eP 14, eP 15], guard := none }) rfl (fun K hK => ?_) AllReadyH.nil
      try go_simp
      try go_wp2_with fail
      refine hK.out _ _ ?_ (fun hHeld => ?_)
      · exact True.intro
      clear hK K
      try simp only [Act.put, zA, zB, zC]
      refine wpAnyH_done (by kernel_rfl) ?_ _
      go_wp2
      go_roundw
      case rel => exact ⟨q, by have := HQ.out; omega, by have := HQ.out; omega, by go_num, HSW⟩
      case measure => have := HQ.out; simp [intOf]; omega
     ·
      skip
      try go_simp
      try go_wp2_with fail
      refine hK.out _ _ ?_ (fun hHeld => ?_)
      · exact True.intro
      clear hK K
      try simp only [Act.put, zA, zB, zC]
      refine wpAnyH_ready (rs := [9]) (by kernel_rfl) (by simp) ?_
      refine AllReadyH.cons (o := { dst := some 122, op := Op.load 28 (Operand.tmp 121), type := 28, pos := "zsortanyfunc.go:422", after := #[eD 8], guard := none }) rfl (fun K hK => ?_) AllReadyH.nil
      try go_simp
      try go_wp2_with fail
      refine hK.out _ _ ?_ (fun hHeld => ?_)
      · exact True.intro
      clear hK K
      try simp only [Act.put, zA, zB, zC]
      refine wpAnyH_take (i := 14) (oi := { dst := some 127, op := Op.indexAddr 22 (Operand.tmp 113) (Operand.tmp 114), type := 0, pos := "zsortanyfunc.go:422", after := #[eD 0, eD 1, eP 0, eP 1, { on := 2, ground := Ground.textOnly Departure.lateStores }, { on := 3, ground := Ground.textOnly Departure.lateStores }, { on := 4, ground := Ground.textOnly Departure.lateStores }, eP 5, eP 6, eP 7, eP 8, eP 9, { on := 10, ground := Ground.textOnly Departure.lateStores }, { on := 11, ground := Ground.textOnly Departure.lateStores }, { on := 12, ground := Ground.textOnly Departure.lateStoresUnsure }, eP 13], guard := none }) (v := ?vq111x) rfl (by kernel_rfl) (by kernel_rfl) (by kernel_rfl) (fun _ _ _ h => h) (Or.inl ⟨by rfl, ?hyq111x⟩) (by assumption) ?restq111x
      case hyq111x => intro w hSw; (try dsimp only at hSw); go_simp; all_goals (with_reducible rfl)
      try simp only [Act.put, zA, zB, zC]
      refine wpAnyH_ready (rs := [15]) (by kernel_rfl) (by simp) ?_
      refine AllReadyH.cons (o := { dst := none, op := Op.store 28 (Operand.tmp 127) (Operand.tmp 122), type := 0, pos := "zsortanyfunc.go:422", after := #[eD 14, eD 9, eP 0, eP 1, { on := 2, ground := Ground.textOnly Departure.lateStores }, { on := 3, ground := Ground.textOnly Departure.lateStores }, { on := 4, ground := Ground.textOnly Departure.lateStores }, eP 5, eP 6, eP 7, eP 8, eP 9, { on := 10, ground := Ground.textOnly Departure.lateStores }, { on := 11, ground := Ground.textOnly Departure.lateStores }, { on := 12, ground := Ground.textOnly Departure.lateStoresUnsure }, eP 13], guard := none }) rfl (fun K hK => ?_) AllReadyH.nil
      try go_simp
      try go_wp2_with fail
      refine hK.out _ _ ?_ (fun hHeld => ?_)
      · exact True.intro
      clear hK K
      try simp only [Act.put, zA, zB, zC]
      clear u0 u1 u2 u3 u4 v0 v1 v2 v3 v4 t0 t1 t2 t3 t4 HS
      generalize ((((((wr.setCell ⟨g, p * 5, none⟩ (.int .i64 v.s)).setCell ⟨g, p * 5 + 1, none⟩ (.slice v.A v.n v.c)).setCell ⟨g, p * 5 + 2, none⟩ (.bool v.K.s)).setCell ⟨g, p * 5 + 3, none⟩ (.slice v.K.A v.K.n v.K.c)).setCell ⟨g, p * 5 + 4, none⟩ (.slice v.K.B v.K.m v.K.d)).drew) = W1 at *
      refine wpAnyH_take (i := 16) (oi := { dst := some 128, op := Op.indexAddr 22 (Operand.tmp 115) (Operand.tmp 117), type := 0, pos := "zsortanyfunc.go:422", after := #[eD 2, eD 4, eP 0, eP 1, eP 2, eP 3, eP 4, eP 5, eP 6, eP 7, eP 8, eP 9, eP 10, eP 11, eP 12, eP 13, eP 14, eP 15], guard := none }) (v := ?vq112x) rfl (by kernel_rfl) (by kernel_rfl) (by kernel_rfl) (fun _ _ _ h => h) (Or.inl ⟨by rfl, ?hyq112x⟩) (by assumption) ?restq112x
      case hyq112x => intro w hSw; (try dsimp only at hSw); go_simp; all_goals (with_reducible rfl)
      try simp only [Act.put, zA, zB, zC]
      refine wpAnyH_ready (rs := [17]) (by kernel_rfl) (by simp) ?_
      refine AllReadyH.cons (o := { dst := none, op := Op.store 28 (Operand.tmp 128) (Operand.tmp 126), type := 0, pos := "zsortanyfunc.go:422", after := #[eD 16, eD 13, eC 15, eP 0, eP 1, eP 2, eP 3, eP 4, eP 5, eP 6, eP 7, eP 8, eP 9, eP 10, eP 11, eP 12, eP 13, eP 14, eP 15], guard := none }) rfl (fun K hK => ?_) AllReadyH.nil
      try go_simp
      try go_wp2_with fail
      refine hK.out _ _ ?_ (fun hHeld => ?_)
      · exact True.intro
      clear hK K
      try simp only [Act.put, zA, zB, zC]
      refine wpAnyH_done (by kernel_rfl) ?_ _
      go_wp2
      go_roundw
      case rel => exact ⟨q, by have := HQ.out; omega, by have := HQ.out; omega, by go_num, HSW⟩
      case measure => have := HQ.out; simp [intOf]; omega
    ·
     have k1 : ¬ (i : Int) < (p : Int) := by omega
     go_wp2
     refine bodyPost_ret (results_none rfl _ _ _) rfl ?_
     exact ⟨rfl, HS.out⟩
end Go.Proofs.YtkfkjdpkkagjgaaGreat
