/-
  A range of sums sorted by insertion.
-/
import Derived.Test.YtkfkjdpkkagjgaaGreatSrtB
namespace Go.Proofs.YtkfkjdpkkagjgaaGreat
set_option maxRecDepth 20000
open Go.RowKit
set_option maxHeartbeats 12800000 in
theorem insertion_c (lo c n g a b : Nat) (l : List Cv) (w : World) (h : OwnC w lo (some ⟨g, 0, none⟩) c n l) (hb : b ≤ n) (hn : n ≤ 1000) (ha : a ≤ 1000) :
  Calls Tryz.prog 98 #[.slice (some ⟨g, 0, none⟩) n c, .int .i64 (a : Int), .int .i64 (b : Int), .func (.func 57) #[] #[]] w fun e w' => e = .returned (.tuple #[]) ∧ Srt lo c n g l w w' := by
 have HS := Lib.hid (Srt.start h)
 clear h
 have a0 : (0 : Int) ≤ (a : Int) := by omega
 have a1 : (a : Int) ≤ 1000 := by omega
 have b0 : (0 : Int) ≤ (b : Int) := by omega
 have b1 : (b : Int) ≤ 1000 := by omega
 have n1 : (n : Int) ≤ 1000 := by omega
 go_enter Tryz.func98, Tryz.ntmps98
 go_wp2
 go_loopw [8] (fun iv wr => ∃ i : Nat, a + 1 ≤ i ∧ i ≤ max (a + 1) b ∧ iv = .int .i64 i ∧ Hid (Srt lo c n g l w wr)) (fun iv _ => 1001 - (intOf iv).toNat)
 case atStart => exact ⟨a + 1, by omega, by omega, by go_num, HS⟩
 case round =>
  clear HS
  obtain ⟨i, hi1, hi2, rfl, HS⟩ := hrel
  have i0 : (0 : Int) ≤ (i : Int) := by omega
  have i9 : (i : Int) ≤ 1001 := by omega
  by_cases hlt : i < b
  ·
   have i1 : (i : Int) < (b : Int) := by omega
   go_wp2
   go_loopw [9] (fun jv wr => ∃ j : Nat, a ≤ j ∧ j ≤ i ∧ jv = .int .i64 j ∧ Hid (Srt lo c n g l w wr)) (fun jv _ => (intOf jv).toNat)
   case atStart => exact ⟨i, by omega, by omega, rfl, HS⟩
   case round =>
    clear HS
    obtain ⟨p, hj1, hj2, rfl, HS⟩ := hrel
    have p0 : (0 : Int) ≤ (p : Int) := by omega
    have p1 : (p : Int) < (n : Int) := by omega
    by_cases hgt : a < p
    ·
     have hg1 : (a : Int) < (p : Int) := by omega
     obtain ⟨q, hqe⟩ : ∃ q, q + 1 = p := ⟨p - 1, by omega⟩
     have q0 : (0 : Int) ≤ (q : Int) := by omega
     have q1 : (q : Int) < (n : Int) := by omega
     have wq : IntKind.i64.wrap ((p : Int) - 1) = (q : Int) := by rw [IntKind.wrap_i64] <;> omega
     have HQ := Lib.hid hqe
     have hql : q < n := by omega
     have hpl : p < n := by omega
     clear hqe
     obtain ⟨⟨l1, hp, ho⟩, hg⟩ := HS.out
     obtain ⟨u, hu⟩ : ∃ u, l1[p]? = some u := ⟨_, List.getElem?_eq_getElem (by rw [ho.len]; omega)⟩
     obtain ⟨v, hv⟩ : ∃ v, l1[q]? = some v := ⟨_, List.getElem?_eq_getElem (by rw [ho.len]; omega)⟩
     obtain ⟨g', eg, _, hgw, hc⟩ := ho.mem (by omega)
     injection eg with eg
     injection eg with eg _ _
     subst eg
     obtain ⟨u0, u1, u2, u3, u4⟩ := hc _ _ hu
     obtain ⟨v0, v1, v2, v3, v4⟩ := hc _ _ hv
     have HGW := Lib.hid hgw
     clear hc hu hv hp ho hg hgw
     go_wp2_with fail
     refine wp_region_held_drew (S := fun w' => w'.cell? ⟨g, p * 5, none⟩ = some (.int .i64 u.s) ∧ w'.cell? ⟨g, p * 5 + 1, none⟩ = some (.slice u.A u.n u.c) ∧ w'.cell? ⟨g, p * 5 + 2, none⟩ = some (.bool u.K.s) ∧ w'.cell? ⟨g, p * 5 + 3, none⟩ = some (.slice u.K.A u.K.n u.K.c) ∧ w'.cell? ⟨g, p * 5 + 4, none⟩ = some (.slice u.K.B u.K.m u.K.d) ∧ w'.cell? ⟨g, q * 5, none⟩ = some (.int .i64 v.s) ∧ w'.cell? ⟨g, q * 5 + 1, none⟩ = some (.slice v.A v.n v.c) ∧ w'.cell? ⟨g, q * 5 + 2, none⟩ = some (.bool v.K.s) ∧ w'.cell? ⟨g, q * 5 + 3, none⟩ = some (.slice v.K.A v.K.n v.K.c) ∧ w'.cell? ⟨g, q * 5 + 4, none⟩ = some (.slice v.K.B v.K.m v.K.d)) (by kernel_rfl) ?_ (fun hHeld => ?_)
     ·
      (try dsimp only)
      go_keep
     refine wpAnyH_take (i := 0) (oi := { dst := some 18, op := Op.move (Operand.tmp 9), type := 3, pos := "zsortanyfunc.go:12", after := #[], guard := none }) (v := ?vq23x) rfl (by kernel_rfl) (by kernel_rfl) (by kernel_rfl) (fun _ _ _ h => h) (Or.inl ⟨by rfl, ?hyq23x⟩) (by assumption) ?restq23x
     case hyq23x => intro w hSw; (try dsimp only at hSw); go_simp; all_goals (with_reducible rfl)
     try simp only [Act.put, zA, zB, zC]
     refine wpAnyH_take (i := 1) (oi := { dst := some 19, op := Op.move (Operand.tmp 1), type := 3, pos := "zsortanyfunc.go:12", after := #[], guard := none }) (v := ?vq24x) rfl (by kernel_rfl) (by kernel_rfl) (by kernel_rfl) (fun _ _ _ h => h) (Or.inl ⟨by rfl, ?hyq24x⟩) (by assumption) ?restq24x
     case hyq24x => intro w hSw; (try dsimp only at hSw); go_simp; all_goals (with_reducible rfl)
     try simp only [Act.put, zA, zB, zC]
     refine wpAnyH_take (i := 2) (oi := { dst := some 20, op := Op.binOp BinOp.gtr 3 (Operand.tmp 18) (Operand.tmp 19) 3, type := 4, pos := "zsortanyfunc.go:12", after := #[eD 0, eD 1], guard := none }) (v := ?vq25x) rfl (by kernel_rfl) (by kernel_rfl) (by kernel_rfl) (fun _ _ _ h => h) (Or.inl ⟨by rfl, ?hyq25x⟩) (by assumption) ?restq25x
     case hyq25x => intro w hSw; (try dsimp only at hSw); go_simp; all_goals (with_reducible rfl)
     try simp only [Act.put, zA, zB, zC]
     refine wpAnyH_take (i := 3) (oi := { dst := some 21, op := Op.move (Operand.tmp 20), type := 4, pos := "zsortanyfunc.go:12", after := #[eD 2], guard := none }) (v := ?vq26x) rfl (by kernel_rfl) (by kernel_rfl) (by kernel_rfl) (fun _ _ _ h => h) (Or.inl ⟨by rfl, ?hyq26x⟩) (by assumption) ?restq26x
     case hyq26x => intro w hSw; (try dsimp only at hSw); go_simp; all_goals (with_reducible rfl)
     try simp only [Act.put, zA, zB, zC]
     refine wpAnyH_take (i := 4) (oi := { dst := some 22, op := Op.move (Operand.tmp 3), type := 81, pos := "zsortanyfunc.go:12", after := #[eG 3], guard := some (3, true) }) (v := ?vq27x) rfl (by kernel_rfl) (by kernel_rfl) (by kernel_rfl) (fun _ _ _ h => h) (Or.inl ⟨by rfl, ?hyq27x⟩) (by assumption) ?restq27x
     case hyq27x => intro w hSw; (try dsimp only at hSw); go_simp; all_goals (with_reducible rfl)
     try simp only [Act.put, zA, zB, zC]
     refine wpAnyH_take (i := 5) (oi := { dst := some 23, op := Op.move (Operand.tmp 0), type := 22, pos := "zsortanyfunc.go:12", after := #[eG 3], guard := some (3, true) }) (v := ?vq28x) rfl (by kernel_rfl) (by kernel_rfl) (by kernel_rfl) (fun _ _ _ h => h) (Or.inl ⟨by rfl, ?hyq28x⟩) (by assumption) ?restq28x
     case hyq28x => intro w hSw; (try dsimp only at hSw); go_simp; all_goals (with_reducible rfl)
     try simp only [Act.put, zA, zB, zC]
     refine wpAnyH_take (i := 6) (oi := { dst := some 24, op := Op.move (Operand.tmp 9), type := 3, pos := "zsortanyfunc.go:12", after := #[eG 3], guard := some (3, true) }) (v := ?vq29x) rfl (by kernel_rfl) (by kernel_rfl) (by kernel_rfl) (fun _ _ _ h => h) (Or.inl ⟨by rfl, ?hyq29x⟩) (by assumption) ?restq29x
     case hyq29x => intro w hSw; (try dsimp only at hSw); go_simp; all_goals (with_reducible rfl)
     try simp only [Act.put, zA, zB, zC]
     refine wpAnyH_take (i := 7) (oi := { dst := some 25, op := Op.indexAddr 22 (Operand.tmp 23) (Operand.tmp 24), type := 0, pos := "zsortanyfunc.go:12", after := #[eD 5, eD 6, eG 3], guard := some (3, true) }) (v := ?vq30x) rfl (by kernel_rfl) (by kernel_rfl) (by kernel_rfl) (fun _ _ _ h => h) (Or.inl ⟨by rfl, ?hyq30x⟩) (by assumption) ?restq30x
     case hyq30x => intro w hSw; (try dsimp only at hSw); go_simp; all_goals (with_reducible rfl)
     try simp only [Act.put, zA, zB, zC]
     refine wpAnyH_take (i := 8) (oi := { dst := some 26, op := Op.load 28 (Operand.tmp 25), type := 28, pos := "zsortanyfunc.go:12", after := #[eD 7, eG 3], guard := some (3, true) }) (v := ?vq31x) rfl (by kernel_rfl) (by kernel_rfl) (by kernel_rfl) (fun _ _ _ h => h) (Or.inl ⟨by rfl, ?hyq31x⟩) (by assumption) ?restq31x
     case hyq31x => intro w hSw; (try dsimp only at hSw); go_simp; all_goals (with_reducible rfl)
     try simp only [Act.put, zA, zB, zC]
     refine wpAnyH_take (i := 9) (oi := { dst := some 27, op := Op.move (Operand.tmp 0), type := 22, pos := "zsortanyfunc.go:12", after := #[eG 3], guard := some (3, true) }) (v := ?vq32x) rfl (by kernel_rfl) (by kernel_rfl) (by kernel_rfl) (fun _ _ _ h => h) (Or.inl ⟨by rfl, ?hyq32x⟩) (by assumption) ?restq32x
     case hyq32x => intro w hSw; (try dsimp only at hSw); go_simp; all_goals (with_reducible rfl)
     try simp only [Act.put, zA, zB, zC]
     refine wpAnyH_take (i := 10) (oi := { dst := some 28, op := Op.move (Operand.tmp 9), type := 3, pos := "zsortanyfunc.go:12", after := #[eG 3], guard := some (3, true) }) (v := ?vq33x) rfl (by kernel_rfl) (by kernel_rfl) (by kernel_rfl) (fun _ _ _ h => h) (Or.inl ⟨by rfl, ?hyq33x⟩) (by assumption) ?restq33x
     case hyq33x => intro w hSw; (try dsimp only at hSw); go_simp; all_goals (with_reducible rfl)
     try simp only [Act.put, zA, zB, zC]
     refine wpAnyH_take (i := 11) (oi := { dst := some 29, op := Op.binOp BinOp.sub 3 (Operand.tmp 28) (Operand.const (Value.int IntKind.i64 1)) 3, type := 3, pos := "zsortanyfunc.go:12", after := #[eD 10, eG 3], guard := some (3, true) }) (v := ?vq34x) rfl (by kernel_rfl) (by kernel_rfl) (by kernel_rfl) (fun _ _ _ h => h) (Or.inl ⟨by rfl, ?hyq34x⟩) (by assumption) ?restq34x
     case hyq34x => intro w hSw; (try dsimp only at hSw); go_simp; all_goals (with_reducible rfl)
     try simp only [Act.put, zA, zB, zC]
     refine wpAnyH_take (i := 12) (oi := { dst := some 30, op := Op.indexAddr 22 (Operand.tmp 27) (Operand.tmp 29), type := 0, pos := "zsortanyfunc.go:12", after := #[eD 9, eD 11, eG 3], guard := some (3, true) }) (v := ?vq35x) rfl (by kernel_rfl) (by kernel_rfl) (by kernel_rfl) (fun _ _ _ h => h) (Or.inl ⟨by rfl, ?hyq35x⟩) (by assumption) ?restq35x
     case hyq35x => intro w hSw; (try dsimp only at hSw); go_simp; all_goals (with_reducible rfl)
     try simp only [Act.put, zA, zB, zC]
     refine wpAnyH_take (i := 13) (oi := { dst := some 31, op := Op.load 28 (Operand.tmp 30), type := 28, pos := "zsortanyfunc.go:12", after := #[eD 12, eG 3], guard := some (3, true) }) (v := ?vq36x) rfl (by kernel_rfl) (by kernel_rfl) (by kernel_rfl) (fun _ _ _ h => h) (Or.inl ⟨by rfl, ?hyq36x⟩) (by assumption) ?restq36x
     case hyq36x => intro w hSw; (try dsimp only at hSw); go_simp; all_goals (with_reducible rfl)
     try simp only [Act.put, zA, zB, zC]
     refine wpAnyH_ready (rs := [14]) (by kernel_rfl) (by simp) ?_
     refine AllReadyH.cons (o := { dst := some 32, op := Op.call { callee := Callee.value (Operand.tmp 22), args := #[Operand.tmp 26, Operand.tmp 31], argTypes := #[28, 28] }, type := 3, pos := "zsortanyfunc.go:12", after := #[eD 4, eD 8, eD 13, eC 3, eG 3], guard := some (3, true) }) rfl (fun K hK => ?_) AllReadyH.nil
     try go_simp
     go_at_call 57
     refine (lit_c _ _ _).mono ?_
     rintro e w2 ⟨kk, rfl, hk1, hk2, hb⟩
     have hbk := hb.block g (by show g < wr.heap.size; exact HGW.out)
     replace u0 := (World.cell?_of_block hbk).trans u0
     replace u1 := (World.cell?_of_block hbk).trans u1
     replace u2 := (World.cell?_of_block hbk).trans u2
     replace u3 := (World.cell?_of_block hbk).trans u3
     replace u4 := (World.cell?_of_block hbk).trans u4
     replace v0 := (World.cell?_of_block hbk).trans v0
     replace v1 := (World.cell?_of_block hbk).trans v1
     replace v2 := (World.cell?_of_block hbk).trans v2
     replace v3 := (World.cell?_of_block hbk).trans v3
     replace v4 := (World.cell?_of_block hbk).trans v4
     have HS2 := Lib.hid (HS.out.below ((bel1 wr).trans hb))
     clear hb hbk
     try go_wp2_with fail
     refine hK.out _ _ ?_ (fun hHeld2 => ?_)
     ·
      (try dsimp only)
      go_keep
     clear hK K hHeld
     have hHeld := hHeld2
     clear hHeld2
     try simp only [Act.put, zA, zB, zC]
     refine wpAnyH_take (i := 15) (oi := { dst := some 33, op := Op.binOp BinOp.lss 3 (Operand.tmp 32) (Operand.const (Value.int IntKind.i64 0)) 3, type := 4, pos := "zsortanyfunc.go:12", after := #[eD 14, eG 3], guard := some (3, true) }) (v := ?vq37x) rfl (by kernel_rfl) (by kernel_rfl) (by kernel_rfl) (fun _ _ _ h => h) (Or.inl ⟨by rfl, ?hyq37x⟩) (by assumption) ?restq37x
     case hyq37x => intro w hSw; (try dsimp only at hSw); go_simp; all_goals (with_reducible rfl)
     try simp only [Act.put, zA, zB, zC]
     refine wpAnyH_take (i := 16) (oi := { dst := some 34, op := Op.pick (Operand.tmp 21) (Operand.tmp 33) (Operand.const (Value.bool false)), type := 4, pos := "zsortanyfunc.go:12", after := #[eD 3, eD 15], guard := none }) (v := ?vq38x) rfl (by kernel_rfl) (by kernel_rfl) (by kernel_rfl) (fun _ _ _ h => h) (Or.inl ⟨by rfl, ?hyq38x⟩) (by assumption) ?restq38x
     case hyq38x => intro w hSw; (try dsimp only at hSw); go_simp; all_goals (with_reducible rfl)
     try simp only [Act.put, zA, zB, zC]
     refine wpAnyH_done (by kernel_rfl) ?_ _
     clear hHeld
     clear u0 u1 u2 u3 u4 v0 v1 v2 v3 v4 HS
     by_cases hk : kk < 0
     ·
      skip
      have HS := HS2
      clear HS2 hk1 hk2
      go_wp2_with fail
      obtain ⟨⟨l1, hp, ho⟩, hg⟩ := HS.out
      obtain ⟨u, hu⟩ : ∃ u, l1[p]? = some u := ⟨_, List.getElem?_eq_getElem (by rw [ho.len]; omega)⟩
      obtain ⟨v, hv⟩ : ∃ v, l1[q]? = some v := ⟨_, List.getElem?_eq_getElem (by rw [ho.len]; omega)⟩
      obtain ⟨x, hx⟩ : ∃ x, (l1.set p v)[q]? = some x := ⟨_, List.getElem?_eq_getElem (by rw [List.length_set, ho.len]; omega)⟩
      have ho1 : OwnC ((((((w2.setCell ⟨g, p * 5, none⟩ (.int .i64 v.s)).setCell ⟨g, p * 5 + 1, none⟩ (.slice v.A v.n v.c)).setCell ⟨g, p * 5 + 2, none⟩ (.bool v.K.s)).setCell ⟨g, p * 5 + 3, none⟩ (.slice v.K.A v.K.n v.K.c)).setCell ⟨g, p * 5 + 4, none⟩ (.slice v.K.B v.K.m v.K.d)).drew) lo (some ⟨g, 0, none⟩) c n (l1.set p v) := (ho.set (j := p) (t := v)).below (bel1 _)
      have HSW : Hid (Srt lo c n g l w (((((((((((w2.setCell ⟨g, p * 5, none⟩ (.int .i64 v.s)).setCell ⟨g, p * 5 + 1, none⟩ (.slice v.A v.n v.c)).setCell ⟨g, p * 5 + 2, none⟩ (.bool v.K.s)).setCell ⟨g, p * 5 + 3, none⟩ (.slice v.K.A v.K.n v.K.c)).setCell ⟨g, p * 5 + 4, none⟩ (.slice v.K.B v.K.m v.K.d)).drew).setCell ⟨g, q * 5, none⟩ (.int .i64 u.s)).setCell ⟨g, q * 5 + 1, none⟩ (.slice u.A u.n u.c)).setCell ⟨g, q * 5 + 2, none⟩ (.bool u.K.s)).setCell ⟨g, q * 5 + 3, none⟩ (.slice u.K.A u.K.n u.K.c)).setCell ⟨g, q * 5 + 4, none⟩ (.slice u.K.B u.K.m u.K.d))) := by
       obtain ⟨h1, rfl⟩ := List.getElem?_eq_some_iff.1 hu
       obtain ⟨h2, rfl⟩ := List.getElem?_eq_some_iff.1 hv
       exact ⟨⟨_, (List.set_set_perm h1 h2).trans hp, ho1.set⟩, (hg.trans ((putC_grown w2 g (p * 5) _).trans (grown_row (bel1 _) _))).trans (putC_grown _ g (q * 5) _)⟩
      obtain ⟨g', eg, _, _, hc⟩ := ho.mem (by omega)
      injection eg with eg
      injection eg with eg _ _
      subst eg
      obtain ⟨u0, u1, u2, u3, u4⟩ := hc _ _ hu
      obtain ⟨v0, v1, v2, v3, v4⟩ := hc _ _ hv
      obtain ⟨g', eg, _, _, hc1⟩ := ho1.mem (by omega)
      injection eg with eg
      injection eg with eg _ _
      subst eg
      obtain ⟨x0, x1, x2, x3, x4⟩ := hc1 _ _ hx
      have t0 := ho.thaw (p * 5)
      have t1 := ho.thaw (p * 5 + 1)
      have t2 := ho.thaw (p * 5 + 2)
      have t3 := ho.thaw (p * 5 + 3)
      have t4 := ho.thaw (p * 5 + 4)
      have s0 := ho1.thaw (q * 5)
      have s1 := ho1.thaw (q * 5 + 1)
      have s2 := ho1.thaw (q * 5 + 2)
      have s3 := ho1.thaw (q * 5 + 3)
      have s4 := ho1.thaw (q * 5 + 4)
      clear hc hc1 hu hv hx hp ho ho1 hg
      refine wp_region_held_drew (S := fun _ => True) (by kernel_rfl) ?_ (fun hHeld => ?_)
      · exact True.intro
      refine wpAnyH_take (i := 0) (oi := { dst := some 37, op := Op.move (Operand.tmp 0), type := 22, pos := "zsortanyfunc.go:13", after := #[], guard := none }) (v := ?vq39x) rfl (by kernel_rfl) (by kernel_rfl) (by kernel_rfl) (fun _ _ _ h => h) (Or.inl ⟨by rfl, ?hyq39x⟩) (by assumption) ?restq39x
      case hyq39x => intro w hSw; (try dsimp only at hSw); go_simp; all_goals (with_reducible rfl)
      try simp only [Act.put, zA, zB, zC]
      refine wpAnyH_take (i := 1) (oi := { dst := some 38, op := Op.move (Operand.tmp 9), type := 3, pos := "zsortanyfunc.go:13", after := #[], guard := none }) (v := ?vq40x) rfl (by kernel_rfl) (by kernel_rfl) (by kernel_rfl) (fun _ _ _ h => h) (Or.inl ⟨by rfl, ?hyq40x⟩) (by assumption) ?restq40x
      case hyq40x => intro w hSw; (try dsimp only at hSw); go_simp; all_goals (with_reducible rfl)
      try simp only [Act.put, zA, zB, zC]
      refine wpAnyH_take (i := 2) (oi := { dst := some 39, op := Op.move (Operand.tmp 0), type := 22, pos := "zsortanyfunc.go:13", after := #[{ on := 15, ground := Ground.gcOnly Departure.lateStores }], guard := none }) (v := ?vq41x) rfl (by kernel_rfl) (by kernel_rfl) (by kernel_rfl) (fun _ _ _ h => h) (Or.inl ⟨by rfl, ?hyq41x⟩) (by assumption) ?restq41x
      case hyq41x => intro w hSw; (try dsimp only at hSw); go_simp; all_goals (with_reducible rfl)
      try simp only [Act.put, zA, zB, zC]
      refine wpAnyH_take (i := 3) (oi := { dst := some 40, op := Op.move (Operand.tmp 9), type := 3, pos := "zsortanyfunc.go:13", after := #[{ on := 15, ground := Ground.gcOnly Departure.lateStores }], guard := none }) (v := ?vq42x) rfl (by kernel_rfl) (by kernel_rfl) (by kernel_rfl) (fun _ _ _ h => h) (Or.inl ⟨by rfl, ?hyq42x⟩) (by assumption) ?restq42x
      case hyq42x => intro w hSw; (try dsimp only at hSw); go_simp; all_goals (with_reducible rfl)
      try simp only [Act.put, zA, zB, zC]
      refine wpAnyH_take (i := 4) (oi := { dst := some 41, op := Op.binOp BinOp.sub 3 (Operand.tmp 40) (Operand.const (Value.int IntKind.i64 1)) 3, type := 3, pos := "zsortanyfunc.go:13", after := #[eD 3, { on := 15, ground := Ground.gcOnly Departure.lateStores }], guard := none }) (v := ?vq43x) rfl (by kernel_rfl) (by kernel_rfl) (by kernel_rfl) (fun _ _ _ h => h) (Or.inl ⟨by rfl, ?hyq43x⟩) (by assumption) ?restq43x
      case hyq43x => intro w hSw; (try dsimp only at hSw); go_simp; all_goals (with_reducible rfl)
      try simp only [Act.put, zA, zB, zC]
      refine wpAnyH_take (i := 5) (oi := { dst := some 42, op := Op.move (Operand.tmp 0), type := 22, pos := "zsortanyfunc.go:13", after := #[], guard := none }) (v := ?vq44x) rfl (by kernel_rfl) (by kernel_rfl) (by kernel_rfl) (fun _ _ _ h => h) (Or.inl ⟨by rfl, ?hyq44x⟩) (by assumption) ?restq44x
      case hyq44x => intro w hSw; (try dsimp only at hSw); go_simp; all_goals (with_reducible rfl)
      try simp only [Act.put, zA, zB, zC]
      refine wpAnyH_take (i := 6) (oi := { dst := some 43, op := Op.move (Operand.tmp 9), type := 3, pos := "zsortanyfunc.go:13", after := #[], guard := none }) (v := ?vq45x) rfl (by kernel_rfl) (by kernel_rfl) (by kernel_rfl) (fun _ _ _ h => h) (Or.inl ⟨by rfl, ?hyq45x⟩) (by assumption) ?restq45x
      case hyq45x => intro w hSw; (try dsimp only at hSw); go_simp; all_goals (with_reducible rfl)
      try simp only [Act.put, zA, zB, zC]
      refine wpAnyH_take (i := 7) (oi := { dst := some 44, op := Op.binOp BinOp.sub 3 (Operand.tmp 43) (Operand.const (Value.int IntKind.i64 1)) 3, type := 3, pos := "zsortanyfunc.go:13", after := #[eD 6], guard := none }) (v := ?vq46x) rfl (by kernel_rfl) (by kernel_rfl) (by kernel_rfl) (fun _ _ _ h => h) (Or.inl ⟨by rfl, ?hyq46x⟩) (by assumption) ?restq46x
      case hyq46x => intro w hSw; (try dsimp only at hSw); go_simp; all_goals (with_reducible rfl)
      try simp only [Act.put, zA, zB, zC]
      refine wpAnyH_take (i := 8) (oi := { dst := some 45, op := Op.indexAddr 22 (Operand.tmp 42) (Operand.tmp 44), type := 0, pos := "zsortanyfunc.go:13", after := #[eD 5, eD 7], guard := none }) (v := ?vq47x) rfl (by kernel_rfl) (by kernel_rfl) (by kernel_rfl) (fun _ _ _ h => h) (Or.inl ⟨by rfl, ?hyq47x⟩) (by assumption) ?restq47x
      case hyq47x => intro w hSw; (try dsimp only at hSw); go_simp; all_goals (with_reducible rfl)
      try simp only [Act.put, zA, zB, zC]
      refine wpAnyH_take (i := 10) (oi := { dst := some 47, op := Op.move (Operand.tmp 0), type := 22, pos := "zsortanyfunc.go:13", after := #[], guard := none }) (v := ?vq48x) rfl (by kernel_rfl) (by kernel_rfl) (by kernel_rfl) (fun _ _ _ h => h) (Or.inl ⟨by rfl, ?hyq48x⟩) (by assumption) ?restq48x
      case hyq48x => intro w hSw; (try dsimp only at hSw); go_simp; all_goals (with_reducible rfl)
      try simp only [Act.put, zA, zB, zC]
      refine wpAnyH_take (i := 11) (oi := { dst := some 48, op := Op.move (Operand.tmp 9), type := 3, pos := "zsortanyfunc.go:13", after := #[], guard := none }) (v := ?vq49x) rfl (by kernel_rfl) (by kernel_rfl) (by kernel_rfl) (fun _ _ _ h => h) (Or.inl ⟨by rfl, ?hyq49x⟩) (by assumption) ?restq49x
      case hyq49x => intro w hSw; (try dsimp only at hSw); go_simp; all_goals (with_reducible rfl)
      try simp only [Act.put, zA, zB, zC]
      refine wpAnyH_take (i := 12) (oi := { dst := some 49, op := Op.indexAddr 22 (Operand.tmp 47) (Operand.tmp 48), type := 0, pos := "zsortanyfunc.go:13", after := #[eD 10, eD 11], guard := none }) (v := ?vq50x) rfl (by kernel_rfl) (by kernel_rfl) (by kernel_rfl) (fun _ _ _ h => h) (Or.inl ⟨by rfl, ?hyq50x⟩) (by assumption) ?restq50x
      case hyq50x => intro w hSw; (try dsimp only at hSw); go_simp; all_goals (with_reducible rfl)
      try simp only [Act.put, zA, zB, zC]
      refine wpAnyH_ready (rs := [9, 13]) (by kernel_rfl) (by simp) ?_
      refine AllReadyH.cons (o := { dst := some 46, op := Op.load 28 (Operand.tmp 45), type := 28, pos := "zsortanyfunc.go:13", after := #[eD 8], guard := none }) rfl (fun K hK => ?_) (AllReadyH.cons (o := { dst := some 50, op := Op.load 28 (Operand.tmp 49), type := 28, pos := "zsortanyfunc.go:13", after := #[eD 12], guard := none }) rfl (fun K hK => ?_) AllReadyH.nil)
      ·
       skip
       try go_simp
       try go_wp2_with fail
       refine hK.out _ _ ?_ (fun hHeld => ?_)
       · exact True.intro
       clear hK K
       try simp only [Act.put, zA, zB, zC]
       refine wpAnyH_ready (rs := [13]) (by kernel_rfl) (by simp) ?_
       refine AllReadyH.cons (o := { dst := some 50, op := Op.load 28 (Operand.tmp 49), type := 28, pos := "zsortanyfunc.go:13", after := #[eD 12], guard := none }) rfl (fun K hK => ?_) AllReadyH.nil
       try go_simp
       try go_wp2_with fail
       refine hK.out _ _ ?_ (fun hHeld => ?_)
       · exact True.intro
       clear hK K
       try simp only [Act.put, zA, zB, zC]
       refine wpAnyH_take (i := 14) (oi := { dst := some 51, op := Op.indexAddr 22 (Operand.tmp 37) (Operand.tmp 38), type := 0, pos := "zsortanyfunc.go:13", after := #[eD 0, eD 1, eP 0, eP 1, { on := 2, ground := Ground.textOnly Departure.lateStores }, { on := 3, ground := Ground.textOnly Departure.lateStores }, { on := 4, ground := Ground.textOnly Departure.lateStores }, eP 5, eP 6, eP 7, eP 8, eP 9, { on := 10, ground := Ground.textOnly Departure.lateStores }, { on := 11, ground := Ground.textOnly Departure.lateStores }, { on := 12, ground := Ground.textOnly Departure.lateStoresUnsure }, eP 13], guard := none }) (v := ?vq51x) rfl (by kernel_rfl) (by kernel_rfl) (by kernel_rfl) (fun _ _ _ h => h) (Or.inl ⟨by rfl, ?hyq51x⟩) (by assumption) ?restq51x
       case hyq51x => intro w hSw; (try dsimp only at hSw); go_simp; all_goals (with_reducible rfl)
       try simp only [Act.put, zA, zB, zC]
       refine wpAnyH_ready (rs := [15]) (by kernel_rfl) (by simp) ?_
       refine AllReadyH.cons (o := { dst := none, op := Op.store 28 (Operand.tmp 51) (Operand.tmp 46), type := 0, pos := "zsortanyfunc.go:13", after := #[eD 14, eD 9, eP 0, eP 1, { on := 2, ground := Ground.textOnly Departure.lateStores }, { on := 3, ground := Ground.textOnly Departure.lateStores }, { on := 4, ground := Ground.textOnly Departure.lateStores }, eP 5, eP 6, eP 7, eP 8, eP 9, { on := 10, ground := Ground.textOnly Departure.lateStores }, { on := 11, ground := Ground.textOnly Departure.lateStores }, { on := 12, ground := Ground.textOnly Departure.lateStoresUnsure }, eP 13], guard := none }) rfl (fun K hK => ?_) AllReadyH.nil
       try go_simp
       try go_wp2_with fail
       refine hK.out _ _ ?_ (fun hHeld => ?_)
       · exact True.intro
       clear hK K
       try simp only [Act.put, zA, zB, zC]
       clear u0 u1 u2 u3 u4 v0 v1 v2 v3 v4 t0 t1 t2 t3 t4 HS
       generalize ((((((w2.setCell ⟨g, p * 5, none⟩ (.int .i64 v.s)).setCell ⟨g, p * 5 + 1, none⟩ (.slice v.A v.n v.c)).setCell ⟨g, p * 5 + 2, none⟩ (.bool v.K.s)).setCell ⟨g, p * 5 + 3, none⟩ (.slice v.K.A v.K.n v.K.c)).setCell ⟨g, p * 5 + 4, none⟩ (.slice v.K.B v.K.m v.K.d)).drew) = W1 at *
       refine wpAnyH_take (i := 16) (oi := { dst := some 52, op := Op.indexAddr 22 (Operand.tmp 39) (Operand.tmp 41), type := 0, pos := "zsortanyfunc.go:13", after := #[eD 2, eD 4, eP 0, eP 1, eP 2, eP 3, eP 4, eP 5, eP 6, eP 7, eP 8, eP 9, eP 10, eP 11, eP 12, eP 13, eP 14, eP 15], guard := none }) (v := ?vq52x) rfl (by kernel_rfl) (by kernel_rfl) (by kernel_rfl) (fun _ _ _ h => h) (Or.inl ⟨by rfl, ?hyq52x⟩) (by assumption) ?restq52x
       case hyq52x => intro w hSw; (try dsimp only at hSw); go_simp; all_goals (with_reducible rfl)
       try simp only [Act.put, zA, zB, zC]
       refine wpAnyH_ready (rs := [17]) (by kernel_rfl) (by simp) ?_
       refine AllReadyH.cons (o := { dst := none, op := Op.store 28 (Operand.tmp 52) (Operand.tmp 50), type := 0, pos := "zsortanyfunc.go:13", after := #[eD 16, eD 13, eC 15, eP 0, eP 1, eP 2, eP 3, eP 4, eP 5, eP 6, eP 7, eP 8, eP 9, eP 10, eP 11, eP 12, eP 13, eP 14, eP 15], guard := none }) rfl (fun K hK => ?_) AllReadyH.nil
       try go_simp
       try go_wp2_with fail
       refine hK.out _ _ ?_ (fun hHeld => ?_)
       · exact True.intro
       clear hK K
       try simp only [Act.put, zA, zB, zC]
       refine wpAnyH_done (by kernel_rfl) ?_ _
       go_wp2
       go_roundw
       case rel => exact ⟨q, by have := HQ.out; omega, by have := HQ.out; omega, by go_num, HSW⟩
       case measure => have := HQ.out; simp [intOf]; omega
      ·
       skip
       try go_simp
       try go_wp2_with fail
       refine hK.out _ _ ?_ (fun hHeld => ?_)
       · exact True.intro
       clear hK K
       try simp only [Act.put, zA, zB, zC]
       refine wpAnyH_ready (rs := [9]) (by kernel_rfl) (by simp) ?_
       refine AllReadyH.cons (o := { dst := some 46, op := Op.load 28 (Operand.tmp 45), type := 28, pos := "zsortanyfunc.go:13", after := #[eD 8], guard := none }) rfl (fun K hK => ?_) AllReadyH.nil
       try go_simp
       try go_wp2_with fail
       refine hK.out _ _ ?_ (fun hHeld => ?_)
       · exact True.intro
       clear hK K
       try simp only [Act.put, zA, zB, zC]
       refine wpAnyH_take (i := 14) (oi := { dst := some 51, op := Op.indexAddr 22 (Operand.tmp 37) (Operand.tmp 38), type := 0, pos := "zsortanyfunc.go:13", after := #[eD 0, eD 1, eP 0, eP 1, { on := 2, ground := Ground.textOnly Departure.lateStores }, { on := 3, ground := Ground.textOnly Departure.lateStores }, { on := 4, ground := Ground.textOnly Departure.lateStores }, eP 5, eP 6, eP 7, eP 8, eP 9, { on := 10, ground := Ground.textOnly Departure.lateStores }, { on := 11, ground := Ground.textOnly Departure.lateStores }, { on := 12, ground := Ground.textOnly Departure.lateStoresUnsure }, eP 13], guard := none }) (v := ?vq53x) rfl (by kernel_rfl) (by kernel_rfl) (by kernel_rfl) (fun _ _ _ h => h) (Or.inl ⟨by rfl, ?hyq53x⟩) (by assumption) ?restq53x
       case hyq53x => intro w hSw; (try dsimp only at hSw); go_simp; all_goals (with_reducible rfl)
       try simp only [Act.put, zA, zB, zC]
       refine wpAnyH_ready (rs := [15]) (by kernel_rfl) (by simp) ?_
       refine AllReadyH.cons (o := { dst := none, op := Op.store 28 (Operand.tmp 51) (Operand.tmp 46), type := 0, pos := "zsortanyfunc.go:13", after := #[eD 14, eD 9, eP 0, eP 1, { on := 2, ground := Ground.textOnly Departure.lateStores }, { on := 3, ground := Ground.textOnly Departure.lateStores }, { on := 4, ground := Ground.textOnly Departure.lateStores }, eP 5, eP 6, eP 7, eP 8, eP 9, { on := 10, ground := Ground.textOnly Departure.lateStores }, { on := 11, ground := Ground.textOnly Departure.lateStores }, { on := 12, ground := Ground.textOnly Departure.lateStoresUnsure }, eP 13], guard := none }) rfl (fun K hK => ?_) AllReadyH.nil
       try go_simp
       try go_wp2_with fail
       refine hK.out _ _ ?_ (fun hHeld => ?_)
       · exact True.intro
       clear hK K
       try simp only [Act.put, zA, zB, zC]
       clear u0 u1 u2 u3 u4 v0 v1 v2 v3 v4 t0 t1 t2 t3 t4 HS
       generalize ((((((w2.setCell ⟨g, p * 5, none⟩ (.int .i64 v.s)).setCell ⟨g, p * 5 + 1, none⟩ (.slice v.A v.n v.c)).setCell ⟨g, p * 5 + 2, none⟩ (.bool v.K.s)).setCell ⟨g, p * 5 + 3, none⟩ (.slice v.K.A v.K.n v.K.c)).setCell ⟨g, p * 5 + 4, none⟩ (.slice v.K.B v.K.m v.K.d)).drew) = W1 at *
       refine wpAnyH_take (i := 16) (oi := { dst := some 52, op := Op.indexAddr 22 (Operand.tmp 39) (Operand.tmp 41), type := 0, pos := "zsortanyfunc.go:13", after := #[eD 2, eD 4, eP 0, eP 1, eP 2, eP 3, eP 4, eP 5, eP 6, eP 7, eP 8, eP 9, eP 10, eP 11, eP 12, eP 13, eP 14, eP 15], guard := none }) (v := ?vq54x) rfl (by kernel_rfl) (by kernel_rfl) (by kernel_rfl) (fun _ _ _ h => h) (Or.inl ⟨by rfl, ?hyq54x⟩) (by assumption) ?restq54x
       case hyq54x => intro w hSw; (try dsimp only at hSw); go_simp; all_goals (with_reducible rfl)
       try simp only [Act.put, zA, zB, zC]
       refine wpAnyH_ready (rs := [17]) (by kernel_rfl) (by simp) ?_
       refine AllReadyH.cons (o := { dst := none, op := Op.store 28 (Operand.tmp 52) (Operand.tmp 50), type := 0, pos := "zsortanyfunc.go:13", after := #[eD 16, eD 13, eC 15, eP 0, eP 1, eP 2, eP 3, eP 4, eP 5, eP 6, eP 7, eP 8, eP 9, eP 10, eP 11, eP 12, eP 13, eP 14, eP 15], guard := none }) rfl (fun K hK => ?_) AllReadyH.nil
       try go_simp
       try go_wp2_with fail
       refine hK.out _ _ ?_ (fun hHeld => ?_)
       · exact True.intro
       clear hK K
       try simp only [Act.put, zA, zB, zC]
       refine wpAnyH_done (by kernel_rfl) ?_ _
       go_wp2
       go_roundw
       case rel => exact ⟨q, by have := HQ.out; omega, by have := HQ.out; omega, by go_num, HSW⟩
       case measure => have := HQ.out; simp [intOf]; omega
     ·
      have hk3 := hk
      go_wp2
      go_roundw
      case rel => exact ⟨i + 1, by omega, by omega, by go_num, HS2⟩
      case measure => simp [intOf]; omega
    ·
     have hg1 : ¬ (a : Int) < (p : Int) := by omega
     go_wp2_with fail
     refine wp_region_held_drew (S := fun _ => True) (by kernel_rfl) ?_ (fun hHeld => ?_)
     · exact True.intro
     refine wpAnyH_take (i := 0) (oi := { dst := some 18, op := Op.move (Operand.tmp 9), type := 3, pos := "zsortanyfunc.go:12", after := #[], guard := none }) (v := ?vq55x) rfl (by kernel_rfl) (by kernel_rfl) (by kernel_rfl) (fun _ _ _ h => h) (Or.inl ⟨by rfl, ?hyq55x⟩) (by assumption) ?restq55x
     case hyq55x => intro w hSw; (try dsimp only at hSw); go_simp; all_goals (with_reducible rfl)
     try simp only [Act.put, zA, zB, zC]
     refine wpAnyH_take (i := 1) (oi := { dst := some 19, op := Op.move (Operand.tmp 1), type := 3, pos := "zsortanyfunc.go:12", after := #[], guard := none }) (v := ?vq56x) rfl (by kernel_rfl) (by kernel_rfl) (by kernel_rfl) (fun _ _ _ h => h) (Or.inl ⟨by rfl, ?hyq56x⟩) (by assumption) ?restq56x
     case hyq56x => intro w hSw; (try dsimp only at hSw); go_simp; all_goals (with_reducible rfl)
     try simp only [Act.put, zA, zB, zC]
     refine wpAnyH_take (i := 2) (oi := { dst := some 20, op := Op.binOp BinOp.gtr 3 (Operand.tmp 18) (Operand.tmp 19) 3, type := 4, pos := "zsortanyfunc.go:12", after := #[eD 0, eD 1], guard := none }) (v := ?vq57x) rfl (by kernel_rfl) (by kernel_rfl) (by kernel_rfl) (fun _ _ _ h => h) (Or.inl ⟨by rfl, ?hyq57x⟩) (by assumption) ?restq57x
     case hyq57x => intro w hSw; (try dsimp only at hSw); go_simp; all_goals (with_reducible rfl)
     try simp only [Act.put, zA, zB, zC]
     refine wpAnyH_take (i := 3) (oi := { dst := some 21, op := Op.move (Operand.tmp 20), type := 4, pos := "zsortanyfunc.go:12", after := #[eD 2], guard := none }) (v := ?vq58x) rfl (by kernel_rfl) (by kernel_rfl) (by kernel_rfl) (fun _ _ _ h => h) (Or.inl ⟨by rfl, ?hyq58x⟩) (by assumption) ?restq58x
     case hyq58x => intro w hSw; (try dsimp only at hSw); go_simp; all_goals (with_reducible rfl)
     try simp only [Act.put, zA, zB, zC]
     refine wpAnyH_take (i := 4) (oi := { dst := some 22, op := Op.move (Operand.tmp 3), type := 81, pos := "zsortanyfunc.go:12", after := #[eG 3], guard := some (3, true) }) (v := undef) rfl (by kernel_rfl) (by kernel_rfl) (by kernel_rfl) (fun _ _ _ h => h) (Or.inr ⟨by rfl, rfl⟩) (by assumption) ?_
     try simp only [Act.put, zA, zB, zC]
     refine wpAnyH_take (i := 5) (oi := { dst := some 23, op := Op.move (Operand.tmp 0), type := 22, pos := "zsortanyfunc.go:12", after := #[eG 3], guard := some (3, true) }) (v := undef) rfl (by kernel_rfl) (by kernel_rfl) (by kernel_rfl) (fun _ _ _ h => h) (Or.inr ⟨by rfl, rfl⟩) (by assumption) ?_
     try simp only [Act.put, zA, zB, zC]
     refine wpAnyH_take (i := 6) (oi := { dst := some 24, op := Op.move (Operand.tmp 9), type := 3, pos := "zsortanyfunc.go:12", after := #[eG 3], guard := some (3, true) }) (v := undef) rfl (by kernel_rfl) (by kernel_rfl) (by kernel_rfl) (fun _ _ _ h => h) (Or.inr ⟨by rfl, rfl⟩) (by assumption) ?_
     try simp only [Act.put, zA, zB, zC]
     refine wpAnyH_take (i := 7) (oi := { dst := some 25, op := Op.indexAddr 22 (Operand.tmp 23) (Operand.tmp 24), type := 0, pos := "zsortanyfunc.go:12", after := #[eD 5, eD 6, eG 3], guard := some (3, true) }) (v := undef) rfl (by kernel_rfl) (by kernel_rfl) (by kernel_rfl) (fun _ _ _ h => h) (Or.inr ⟨by rfl, rfl⟩) (by assumption) ?_
     try simp only [Act.put, zA, zB, zC]
     refine wpAnyH_take (i := 8) (oi := { dst := some 26, op := Op.load 28 (Operand.tmp 25), type := 28, pos := "zsortanyfunc.go:12", after := #[eD 7, eG 3], guard := some (3, true) }) (v := undef) rfl (by kernel_rfl) (by kernel_rfl) (by kernel_rfl) (fun _ _ _ h => h) (Or.inr ⟨by rfl, rfl⟩) (by assumption) ?_
     try simp only [Act.put, zA, zB, zC]
     refine wpAnyH_take (i := 9) (oi := { dst := some 27, op := Op.move (Operand.tmp 0), type := 22, pos := "zsortanyfunc.go:12", after := #[eG 3], guard := some (3, true) }) (v := undef) rfl (by kernel_rfl) (by kernel_rfl) (by kernel_rfl) (fun _ _ _ h => h) (Or.inr ⟨by rfl, rfl⟩) (by assumption) ?_
     try simp only [Act.put, zA, zB, zC]
     refine wpAnyH_take (i := 10) (oi := { dst := some 28, op := Op.move (Operand.tmp 9), type := 3, pos := "zsortanyfunc.go:12", after := #[eG 3], guard := some (3, true) }) (v := undef) rfl (by kernel_rfl) (by kernel_rfl) (by kernel_rfl) (fun _ _ _ h => h) (Or.inr ⟨by rfl, rfl⟩) (by assumption) ?_
     try simp only [Act.put, zA, zB, zC]
     refine wpAnyH_take (i := 11) (oi := { dst := some 29, op := Op.binOp BinOp.sub 3 (Operand.tmp 28) (Operand.const (Value.int IntKind.i64 1)) 3, type := 3, pos := "zsortanyfunc.go:12", after := #[eD 10, eG 3], guard := some (3, true) }) (v := undef) rfl (by kernel_rfl) (by kernel_rfl) (by kernel_rfl) (fun _ _ _ h => h) (Or.inr ⟨by rfl, rfl⟩) (by assumption) ?_
     try simp only [Act.put, zA, zB, zC]
     refine wpAnyH_take (i := 12) (oi := { dst := some 30, op := Op.indexAddr 22 (Operand.tmp 27) (Operand.tmp 29), type := 0, pos := "zsortanyfunc.go:12", after := #[eD 9, eD 11, eG 3], guard := some (3, true) }) (v := undef) rfl (by kernel_rfl) (by kernel_rfl) (by kernel_rfl) (fun _ _ _ h => h) (Or.inr ⟨by rfl, rfl⟩) (by assumption) ?_
     try simp only [Act.put, zA, zB, zC]
     refine wpAnyH_take (i := 13) (oi := { dst := some 31, op := Op.load 28 (Operand.tmp 30), type := 28, pos := "zsortanyfunc.go:12", after := #[eD 12, eG 3], guard := some (3, true) }) (v := undef) rfl (by kernel_rfl) (by kernel_rfl) (by kernel_rfl) (fun _ _ _ h => h) (Or.inr ⟨by rfl, rfl⟩) (by assumption) ?_
     try simp only [Act.put, zA, zB, zC]
     refine wpAnyH_take (i := 14) (oi := { dst := some 32, op := Op.call { callee := Callee.value (Operand.tmp 22), args := #[Operand.tmp 26, Operand.tmp 31], argTypes := #[28, 28] }, type := 3, pos := "zsortanyfunc.go:12", after := #[eD 4, eD 8, eD 13, eC 3, eG 3], guard := some (3, true) }) (v := undef) rfl (by kernel_rfl) (by kernel_rfl) (by kernel_rfl) (fun _ _ _ h => h) (Or.inr ⟨by rfl, rfl⟩) (by assumption) ?_
     try simp only [Act.put, zA, zB, zC]
     refine wpAnyH_take (i := 15) (oi := { dst := some 33, op := Op.binOp BinOp.lss 3 (Operand.tmp 32) (Operand.const (Value.int IntKind.i64 0)) 3, type := 4, pos := "zsortanyfunc.go:12", after := #[eD 14, eG 3], guard := some (3, true) }) (v := undef) rfl (by kernel_rfl) (by kernel_rfl) (by kernel_rfl) (fun _ _ _ h => h) (Or.inr ⟨by rfl, rfl⟩) (by assumption) ?_
     try simp only [Act.put, zA, zB, zC]
     refine wpAnyH_take (i := 16) (oi := { dst := some 34, op := Op.pick (Operand.tmp 21) (Operand.tmp 33) (Operand.const (Value.bool false)), type := 4, pos := "zsortanyfunc.go:12", after := #[eD 3, eD 15], guard := none }) (v := ?vq59x) rfl (by kernel_rfl) (by kernel_rfl) (by kernel_rfl) (fun _ _ _ h => h) (Or.inl ⟨by rfl, ?hyq59x⟩) (by assumption) ?restq59x
     case hyq59x => intro w hSw; (try dsimp only at hSw); go_simp; all_goals (with_reducible rfl)
     try simp only [Act.put, zA, zB, zC]
     refine wpAnyH_done (by kernel_rfl) ?_ _
     go_wp2
     go_roundw
     case rel => exact ⟨i + 1, by omega, by omega, by go_num, Lib.hid (HS.out.below (bel1 _))⟩
     case measure => simp [intOf]; omega
  ·
   have i1 : ¬ (i : Int) < (b : Int) := by omega
   go_wp2
   refine bodyPost_end (results_none rfl _ _ _) rfl ?_
   exact ⟨rfl, HS.out⟩
end Go.Proofs.YtkfkjdpkkagjgaaGreat
