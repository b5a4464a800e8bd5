/-
  A range of sums swapped with another one.
-/
import Derived.Test.YtkfkjdpkkagjgaaGreatSrtA
import Derived.Test.YtkfkjdpkkagjgaaGreatMAa
namespace Go.Proofs.YtkfkjdpkkagjgaaGreat
set_option maxRecDepth 20000
open Go.RowKit
set_option maxHeartbeats 6400000 in
theorem swapRange_c (lo c n g a b k : Nat) (l : List Cv) (w : World) (h : OwnC w lo (some ⟨g, 0, none⟩) c n l) (ha : a + k ≤ n) (hb : b + k ≤ n) (hn : n ≤ 1000) :
  Calls Tryz.prog 117 #[.slice (some ⟨g, 0, none⟩) n c, .int .i64 (a : Int), .int .i64 (b : Int), .int .i64 (k : Int), .func (.func 57) #[] #[]] w fun e w' => e = .returned (.tuple #[]) ∧ Srt lo c n g l w w' := by
 have HS := Lib.hid (Srt.start h)
 clear h
 have a0 : (0 : Int) ≤ (a : Int) := by omega
 have b0 : (0 : Int) ≤ (b : Int) := by omega
 have k0 : (0 : Int) ≤ (k : Int) := by omega
 have a1 : (a : Int) ≤ 1000 := by omega
 have b1 : (b : Int) ≤ 1000 := by omega
 have k1 : (k : Int) ≤ 1000 := by omega
 go_enter Tryz.func117, Tryz.ntmps117
 go_wp2
 go_loopw [10] (fun iv wr => ∃ i : Nat, i ≤ k ∧ iv = .int .i64 i ∧ Hid (Srt lo c n g l w wr)) (fun iv _ => k - (intOf iv).toNat)
 case atStart => exact ⟨0, by omega, rfl, HS⟩
 case round =>
  clear HS
  obtain ⟨i, hi, rfl, HS⟩ := hrel
  have i0 : (0 : Int) ≤ (i : Int) := by omega
  by_cases hlt : i < k
  ·
   have i1 : (i : Int) < (k : Int) := by omega
   obtain ⟨p, hpe⟩ : ∃ p, p = a + i := ⟨_, rfl⟩
   obtain ⟨q, hqe⟩ : ∃ q, q = b + i := ⟨_, rfl⟩
   obtain ⟨⟨l1, hp, ho⟩, hg⟩ := HS.out
   obtain ⟨u, hu⟩ : ∃ u, l1[p]? = some u := ⟨_, List.getElem?_eq_getElem (by rw [ho.len]; omega)⟩
   obtain ⟨v, hv⟩ : ∃ v, l1[q]? = some v := ⟨_, List.getElem?_eq_getElem (by rw [ho.len]; omega)⟩
   obtain ⟨x, hx⟩ : ∃ x, (l1.set p v)[q]? = some x := ⟨_, List.getElem?_eq_getElem (by rw [List.length_set, ho.len]; omega)⟩
   have ho1 : OwnC ((((((wr.setCell ⟨g, p * 5, none⟩ (.int .i64 v.s)).setCell ⟨g, p * 5 + 1, none⟩ (.slice v.A v.n v.c)).setCell ⟨g, p * 5 + 2, none⟩ (.bool v.K.s)).setCell ⟨g, p * 5 + 3, none⟩ (.slice v.K.A v.K.n v.K.c)).setCell ⟨g, p * 5 + 4, none⟩ (.slice v.K.B v.K.m v.K.d)).drew) lo (some ⟨g, 0, none⟩) c n (l1.set p v) := (ho.set (j := p) (t := v)).below (bel1 _)
   have HSW : Hid (Srt lo c n g l w (((((((((((wr.setCell ⟨g, p * 5, none⟩ (.int .i64 v.s)).setCell ⟨g, p * 5 + 1, none⟩ (.slice v.A v.n v.c)).setCell ⟨g, p * 5 + 2, none⟩ (.bool v.K.s)).setCell ⟨g, p * 5 + 3, none⟩ (.slice v.K.A v.K.n v.K.c)).setCell ⟨g, p * 5 + 4, none⟩ (.slice v.K.B v.K.m v.K.d)).drew).setCell ⟨g, q * 5, none⟩ (.int .i64 u.s)).setCell ⟨g, q * 5 + 1, none⟩ (.slice u.A u.n u.c)).setCell ⟨g, q * 5 + 2, none⟩ (.bool u.K.s)).setCell ⟨g, q * 5 + 3, none⟩ (.slice u.K.A u.K.n u.K.c)).setCell ⟨g, q * 5 + 4, none⟩ (.slice u.K.B u.K.m u.K.d))) := by
    obtain ⟨h1, rfl⟩ := List.getElem?_eq_some_iff.1 hu
    obtain ⟨h2, rfl⟩ := List.getElem?_eq_some_iff.1 hv
    exact ⟨⟨_, (List.set_set_perm h1 h2).trans hp, ho1.set⟩, (hg.trans ((putC_grown wr g (p * 5) _).trans (grown_row (bel1 _) _))).trans (putC_grown _ g (q * 5) _)⟩
   obtain ⟨g', eg, _, _, hc⟩ := ho.mem (by omega)
   injection eg with eg
   injection eg with eg _ _
   subst eg
   obtain ⟨u0, u1, u2, u3, u4⟩ := hc _ _ hu
   obtain ⟨v0, v1, v2, v3, v4⟩ := hc _ _ hv
   obtain ⟨g', eg, _, _, hc1⟩ := ho1.mem (by omega)
   injection eg with eg
   injection eg with eg _ _
   subst eg
   obtain ⟨x0, x1, x2, x3, x4⟩ := hc1 _ _ hx
   have t0 := ho.thaw (p * 5)
   have t1 := ho.thaw (p * 5 + 1)
   have t2 := ho.thaw (p * 5 + 2)
   have t3 := ho.thaw (p * 5 + 3)
   have t4 := ho.thaw (p * 5 + 4)
   have s0 := ho1.thaw (q * 5)
   have s1 := ho1.thaw (q * 5 + 1)
   have s2 := ho1.thaw (q * 5 + 2)
   have s3 := ho1.thaw (q * 5 + 3)
   have s4 := ho1.thaw (q * 5 + 4)
   clear hc hc1 hu hv hx hp ho ho1 hg
   have p0 : (0 : Int) ≤ (p : Int) := by omega
   have p1 : (p : Int) < (n : Int) := by omega
   have q0 : (0 : Int) ≤ (q : Int) := by omega
   have q1 : (q : Int) < (n : Int) := by omega
   have wp : IntKind.i64.wrap ((a : Int) + (i : Int)) = (p : Int) := by rw [IntKind.wrap_i64] <;> omega
   have wq : IntKind.i64.wrap ((b : Int) + (i : Int)) = (q : Int) := by rw [IntKind.wrap_i64] <;> omega
   clear hpe hqe
   go_wp2_with fail
   refine wp_region_held_drew (S := fun _ => True) (by kernel_rfl) ?_ (fun hHeld => ?_)
   · exact True.intro
   refine wpAnyH_take (i := 0) (oi := { dst := some 16, op := Op.move (Operand.tmp 0), type := 22, pos := "zsortanyfunc.go:331", after := #[], guard := none }) (v := ?vq1x) rfl (by kernel_rfl) (by kernel_rfl) (by kernel_rfl) (fun _ _ _ h => h) (Or.inl ⟨by rfl, ?hyq1x⟩) (by assumption) ?restq1x
   case hyq1x => intro w hSw; (try dsimp only at hSw); go_simp; all_goals (with_reducible rfl)
   try simp only [Act.put, zA, zB, zC]
   refine wpAnyH_take (i := 1) (oi := { dst := some 17, op := Op.move (Operand.tmp 1), type := 3, pos := "zsortanyfunc.go:331", after := #[], guard := none }) (v := ?vq2x) rfl (by kernel_rfl) (by kernel_rfl) (by kernel_rfl) (fun _ _ _ h => h) (Or.inl ⟨by rfl, ?hyq2x⟩) (by assumption) ?restq2x
   case hyq2x => intro w hSw; (try dsimp only at hSw); go_simp; all_goals (with_reducible rfl)
   try simp only [Act.put, zA, zB, zC]
   refine wpAnyH_take (i := 2) (oi := { dst := some 18, op := Op.move (Operand.tmp 10), type := 3, pos := "zsortanyfunc.go:331", after := #[], guard := none }) (v := ?vq3x) rfl (by kernel_rfl) (by kernel_rfl) (by kernel_rfl) (fun _ _ _ h => h) (Or.inl ⟨by rfl, ?hyq3x⟩) (by assumption) ?restq3x
   case hyq3x => intro w hSw; (try dsimp only at hSw); go_simp; all_goals (with_reducible rfl)
   try simp only [Act.put, zA, zB, zC]
   refine wpAnyH_take (i := 3) (oi := { dst := some 19, op := Op.binOp BinOp.add 3 (Operand.tmp 17) (Operand.tmp 18) 3, type := 3, pos := "zsortanyfunc.go:331", after := #[eD 1, eD 2], guard := none }) (v := ?vq4x) rfl (by kernel_rfl) (by kernel_rfl) (by kernel_rfl) (fun _ _ _ h => h) (Or.inl ⟨by rfl, ?hyq4x⟩) (by assumption) ?restq4x
   case hyq4x => intro w hSw; (try dsimp only at hSw); go_simp; all_goals (with_reducible rfl)
   try simp only [Act.put, zA, zB, zC]
   refine wpAnyH_take (i := 4) (oi := { dst := some 20, op := Op.move (Operand.tmp 0), type := 22, pos := "zsortanyfunc.go:331", after := #[{ on := 21, ground := Ground.gcOnly Departure.lateStores }], guard := none }) (v := ?vq5x) rfl (by kernel_rfl) (by kernel_rfl) (by kernel_rfl) (fun _ _ _ h => h) (Or.inl ⟨by rfl, ?hyq5x⟩) (by assumption) ?restq5x
   case hyq5x => intro w hSw; (try dsimp only at hSw); go_simp; all_goals (with_reducible rfl)
   try simp only [Act.put, zA, zB, zC]
   refine wpAnyH_take (i := 5) (oi := { dst := some 21, op := Op.move (Operand.tmp 2), type := 3, pos := "zsortanyfunc.go:331", after := #[{ on := 21, ground := Ground.gcOnly Departure.lateStores }], guard := none }) (v := ?vq6x) rfl (by kernel_rfl) (by kernel_rfl) (by kernel_rfl) (fun _ _ _ h => h) (Or.inl ⟨by rfl, ?hyq6x⟩) (by assumption) ?restq6x
   case hyq6x => intro w hSw; (try dsimp only at hSw); go_simp; all_goals (with_reducible rfl)
   try simp only [Act.put, zA, zB, zC]
   refine wpAnyH_take (i := 6) (oi := { dst := some 22, op := Op.move (Operand.tmp 10), type := 3, pos := "zsortanyfunc.go:331", after := #[{ on := 21, ground := Ground.gcOnly Departure.lateStores }], guard := none }) (v := ?vq7x) rfl (by kernel_rfl) (by kernel_rfl) (by kernel_rfl) (fun _ _ _ h => h) (Or.inl ⟨by rfl, ?hyq7x⟩) (by assumption) ?restq7x
   case hyq7x => intro w hSw; (try dsimp only at hSw); go_simp; all_goals (with_reducible rfl)
   try simp only [Act.put, zA, zB, zC]
   refine wpAnyH_take (i := 7) (oi := { dst := some 23, op := Op.binOp BinOp.add 3 (Operand.tmp 21) (Operand.tmp 22) 3, type := 3, pos := "zsortanyfunc.go:331", after := #[eD 5, eD 6, { on := 21, ground := Ground.gcOnly Departure.lateStores }], guard := none }) (v := ?vq8x) rfl (by kernel_rfl) (by kernel_rfl) (by kernel_rfl) (fun _ _ _ h => h) (Or.inl ⟨by rfl, ?hyq8x⟩) (by assumption) ?restq8x
   case hyq8x => intro w hSw; (try dsimp only at hSw); go_simp; all_goals (with_reducible rfl)
   try simp only [Act.put, zA, zB, zC]
   refine wpAnyH_take (i := 8) (oi := { dst := some 24, op := Op.move (Operand.tmp 0), type := 22, pos := "zsortanyfunc.go:331", after := #[], guard := none }) (v := ?vq9x) rfl (by kernel_rfl) (by kernel_rfl) (by kernel_rfl) (fun _ _ _ h => h) (Or.inl ⟨by rfl, ?hyq9x⟩) (by assumption) ?restq9x
   case hyq9x => intro w hSw; (try dsimp only at hSw); go_simp; all_goals (with_reducible rfl)
   try simp only [Act.put, zA, zB, zC]
   refine wpAnyH_take (i := 9) (oi := { dst := some 25, op := Op.move (Operand.tmp 2), type := 3, pos := "zsortanyfunc.go:331", after := #[], guard := none }) (v := ?vq10x) rfl (by kernel_rfl) (by kernel_rfl) (by kernel_rfl) (fun _ _ _ h => h) (Or.inl ⟨by rfl, ?hyq10x⟩) (by assumption) ?restq10x
   case hyq10x => intro w hSw; (try dsimp only at hSw); go_simp; all_goals (with_reducible rfl)
   try simp only [Act.put, zA, zB, zC]
   refine wpAnyH_take (i := 10) (oi := { dst := some 26, op := Op.move (Operand.tmp 10), type := 3, pos := "zsortanyfunc.go:331", after := #[], guard := none }) (v := ?vq11x) rfl (by kernel_rfl) (by kernel_rfl) (by kernel_rfl) (fun _ _ _ h => h) (Or.inl ⟨by rfl, ?hyq11x⟩) (by assumption) ?restq11x
   case hyq11x => intro w hSw; (try dsimp only at hSw); go_simp; all_goals (with_reducible rfl)
   try simp only [Act.put, zA, zB, zC]
   refine wpAnyH_take (i := 11) (oi := { dst := some 27, op := Op.binOp BinOp.add 3 (Operand.tmp 25) (Operand.tmp 26) 3, type := 3, pos := "zsortanyfunc.go:331", after := #[eD 9, eD 10], guard := none }) (v := ?vq12x) rfl (by kernel_rfl) (by kernel_rfl) (by kernel_rfl) (fun _ _ _ h => h) (Or.inl ⟨by rfl, ?hyq12x⟩) (by assumption) ?restq12x
   case hyq12x => intro w hSw; (try dsimp only at hSw); go_simp; all_goals (with_reducible rfl)
   try simp only [Act.put, zA, zB, zC]
   refine wpAnyH_take (i := 12) (oi := { dst := some 28, op := Op.indexAddr 22 (Operand.tmp 24) (Operand.tmp 27), type := 0, pos := "zsortanyfunc.go:331", after := #[eD 8, eD 11], guard := none }) (v := ?vq13x) rfl (by kernel_rfl) (by kernel_rfl) (by kernel_rfl) (fun _ _ _ h => h) (Or.inl ⟨by rfl, ?hyq13x⟩) (by assumption) ?restq13x
   case hyq13x => intro w hSw; (try dsimp only at hSw); go_simp; all_goals (with_reducible rfl)
   try simp only [Act.put, zA, zB, zC]
   refine wpAnyH_take (i := 14) (oi := { dst := some 30, op := Op.move (Operand.tmp 0), type := 22, pos := "zsortanyfunc.go:331", after := #[], guard := none }) (v := ?vq14x) rfl (by kernel_rfl) (by kernel_rfl) (by kernel_rfl) (fun _ _ _ h => h) (Or.inl ⟨by rfl, ?hyq14x⟩) (by assumption) ?restq14x
   case hyq14x => intro w hSw; (try dsimp only at hSw); go_simp; all_goals (with_reducible rfl)
   try simp only [Act.put, zA, zB, zC]
   refine wpAnyH_take (i := 15) (oi := { dst := some 31, op := Op.move (Operand.tmp 1), type := 3, pos := "zsortanyfunc.go:331", after := #[], guard := none }) (v := ?vq15x) rfl (by kernel_rfl) (by kernel_rfl) (by kernel_rfl) (fun _ _ _ h => h) (Or.inl ⟨by rfl, ?hyq15x⟩) (by assumption) ?restq15x
   case hyq15x => intro w hSw; (try dsimp only at hSw); go_simp; all_goals (with_reducible rfl)
   try simp only [Act.put, zA, zB, zC]
   refine wpAnyH_take (i := 16) (oi := { dst := some 32, op := Op.move (Operand.tmp 10), type := 3, pos := "zsortanyfunc.go:331", after := #[], guard := none }) (v := ?vq16x) rfl (by kernel_rfl) (by kernel_rfl) (by kernel_rfl) (fun _ _ _ h => h) (Or.inl ⟨by rfl, ?hyq16x⟩) (by assumption) ?restq16x
   case hyq16x => intro w hSw; (try dsimp only at hSw); go_simp; all_goals (with_reducible rfl)
   try simp only [Act.put, zA, zB, zC]
   refine wpAnyH_take (i := 17) (oi := { dst := some 33, op := Op.binOp BinOp.add 3 (Operand.tmp 31) (Operand.tmp 32) 3, type := 3, pos := "zsortanyfunc.go:331", after := #[eD 15, eD 16], guard := none }) (v := ?vq17x) rfl (by kernel_rfl) (by kernel_rfl) (by kernel_rfl) (fun _ _ _ h => h) (Or.inl ⟨by rfl, ?hyq17x⟩) (by assumption) ?restq17x
   case hyq17x => intro w hSw; (try dsimp only at hSw); go_simp; all_goals (with_reducible rfl)
   try simp only [Act.put, zA, zB, zC]
   refine wpAnyH_take (i := 18) (oi := { dst := some 34, op := Op.indexAddr 22 (Operand.tmp 30) (Operand.tmp 33), type := 0, pos := "zsortanyfunc.go:331", after := #[eD 14, eD 17], guard := none }) (v := ?vq18x) rfl (by kernel_rfl) (by kernel_rfl) (by kernel_rfl) (fun _ _ _ h => h) (Or.inl ⟨by rfl, ?hyq18x⟩) (by assumption) ?restq18x
   case hyq18x => intro w hSw; (try dsimp only at hSw); go_simp; all_goals (with_reducible rfl)
   try simp only [Act.put, zA, zB, zC]
   refine wpAnyH_ready (rs := [13, 19]) (by kernel_rfl) (by simp) ?_
   refine AllReadyH.cons (o := { dst := some 29, op := Op.load 28 (Operand.tmp 28), type := 28, pos := "zsortanyfunc.go:331", after := #[eD 12], guard := none }) rfl (fun K hK => ?_) (AllReadyH.cons (o := { dst := some 35, op := Op.load 28 (Operand.tmp 34), type := 28, pos := "zsortanyfunc.go:331", after := #[eD 18], guard := none }) rfl (fun K hK => ?_) AllReadyH.nil)
   ·
    skip
    try go_simp
    try go_wp2_with fail
    refine hK.out _ _ ?_ (fun hHeld => ?_)
    · exact True.intro
    clear hK K
    try simp only [Act.put, zA, zB, zC]
    refine wpAnyH_ready (rs := [19]) (by kernel_rfl) (by simp) ?_
    refine AllReadyH.cons (o := { dst := some 35, op := Op.load 28 (Operand.tmp 34), type := 28, pos := "zsortanyfunc.go:331", after := #[eD 18], guard := none }) rfl (fun K hK => ?_) AllReadyH.nil
    try go_simp
    try go_wp2_with fail
    refine hK.out _ _ ?_ (fun hHeld => ?_)
    · exact True.intro
    clear hK K
    try simp only [Act.put, zA, zB, zC]
    refine wpAnyH_take (i := 20) (oi := { dst := some 36, op := Op.indexAddr 22 (Operand.tmp 16) (Operand.tmp 19), type := 0, pos := "zsortanyfunc.go:331", after := #[eD 0, eD 3, eP 0, eP 1, eP 2, eP 3, { on := 4, ground := Ground.textOnly Departure.lateStores }, { on := 5, ground := Ground.textOnly Departure.lateStores }, { on := 6, ground := Ground.textOnly Departure.lateStores }, { on := 7, ground := Ground.textOnly Departure.lateStores }, eP 8, eP 9, eP 10, eP 11, eP 12, eP 13, { on := 14, ground := Ground.textOnly Departure.lateStores }, { on := 15, ground := Ground.textOnly Departure.lateStores }, { on := 16, ground := Ground.textOnly Departure.lateStores }, { on := 17, ground := Ground.textOnly Departure.lateStores }, { on := 18, ground := Ground.textOnly Departure.lateStoresUnsure }, eP 19], guard := none }) (v := ?vq19x) rfl (by kernel_rfl) (by kernel_rfl) (by kernel_rfl) (fun _ _ _ h => h) (Or.inl ⟨by rfl, ?hyq19x⟩) (by assumption) ?restq19x
    case hyq19x => intro w hSw; (try dsimp only at hSw); go_simp; all_goals (with_reducible rfl)
    try simp only [Act.put, zA, zB, zC]
    refine wpAnyH_ready (rs := [21]) (by kernel_rfl) (by simp) ?_
    refine AllReadyH.cons (o := { dst := none, op := Op.store 28 (Operand.tmp 36) (Operand.tmp 29), type := 0, pos := "zsortanyfunc.go:331", after := #[eD 20, eD 13, eP 0, eP 1, eP 2, eP 3, { on := 4, ground := Ground.textOnly Departure.lateStores }, { on := 5, ground := Ground.textOnly Departure.lateStores }, { on := 6, ground := Ground.textOnly Departure.lateStores }, { on := 7, ground := Ground.textOnly Departure.lateStores }, eP 8, eP 9, eP 10, eP 11, eP 12, eP 13, { on := 14, ground := Ground.textOnly Departure.lateStores }, { on := 15, ground := Ground.textOnly Departure.lateStores }, { on := 16, ground := Ground.textOnly Departure.lateStores }, { on := 17, ground := Ground.textOnly Departure.lateStores }, { on := 18, ground := Ground.textOnly Departure.lateStoresUnsure }, eP 19], guard := none }) rfl (fun K hK => ?_) AllReadyH.nil
    try go_simp
    try go_wp2_with fail
    refine hK.out _ _ ?_ (fun hHeld => ?_)
    · exact True.intro
    clear hK K
    try simp only [Act.put, zA, zB, zC]
    clear u0 u1 u2 u3 u4 v0 v1 v2 v3 v4 t0 t1 t2 t3 t4 HS
    generalize ((((((wr.setCell ⟨g, p * 5, none⟩ (.int .i64 v.s)).setCell ⟨g, p * 5 + 1, none⟩ (.slice v.A v.n v.c)).setCell ⟨g, p * 5 + 2, none⟩ (.bool v.K.s)).setCell ⟨g, p * 5 + 3, none⟩ (.slice v.K.A v.K.n v.K.c)).setCell ⟨g, p * 5 + 4, none⟩ (.slice v.K.B v.K.m v.K.d)).drew) = W1 at *
    refine wpAnyH_take (i := 22) (oi := { dst := some 37, op := Op.indexAddr 22 (Operand.tmp 20) (Operand.tmp 23), type := 0, pos := "zsortanyfunc.go:331", after := #[eD 4, eD 7, eP 0, eP 1, eP 2, eP 3, eP 4, eP 5, eP 6, eP 7, eP 8, eP 9, eP 10, eP 11, eP 12, eP 13, eP 14, eP 15, eP 16, eP 17, eP 18, eP 19, eP 20, eP 21], guard := none }) (v := ?vq20x) rfl (by kernel_rfl) (by kernel_rfl) (by kernel_rfl) (fun _ _ _ h => h) (Or.inl ⟨by rfl, ?hyq20x⟩) (by assumption) ?restq20x
    case hyq20x => intro w hSw; (try dsimp only at hSw); go_simp; all_goals (with_reducible rfl)
    try simp only [Act.put, zA, zB, zC]
    refine wpAnyH_ready (rs := [23]) (by kernel_rfl) (by simp) ?_
    refine AllReadyH.cons (o := { dst := none, op := Op.store 28 (Operand.tmp 37) (Operand.tmp 35), type := 0, pos := "zsortanyfunc.go:331", after := #[eD 22, eD 19, eC 21, eP 0, eP 1, eP 2, eP 3, eP 4, eP 5, eP 6, eP 7, eP 8, eP 9, eP 10, eP 11, eP 12, eP 13, eP 14, eP 15, eP 16, eP 17, eP 18, eP 19, eP 20, eP 21], guard := none }) rfl (fun K hK => ?_) AllReadyH.nil
    try go_simp
    try go_wp2_with fail
    refine hK.out _ _ ?_ (fun hHeld => ?_)
    · exact True.intro
    clear hK K
    try simp only [Act.put, zA, zB, zC]
    refine wpAnyH_done (by kernel_rfl) ?_ _
    go_wp2
    go_roundw
    case rel => exact ⟨i + 1, by omega, by go_num, HSW⟩
    case measure => simp [intOf]; omega
   ·
    skip
    try go_simp
    try go_wp2_with fail
    refine hK.out _ _ ?_ (fun hHeld => ?_)
    · exact True.intro
    clear hK K
    try simp only [Act.put, zA, zB, zC]
    refine wpAnyH_ready (rs := [13]) (by kernel_rfl) (by simp) ?_
    refine AllReadyH.cons (o := { dst := some 29, op := Op.load 28 (Operand.tmp 28), type := 28, pos := "zsortanyfunc.go:331", after := #[eD 12], guard := none }) rfl (fun K hK => ?_) AllReadyH.nil
    try go_simp
    try go_wp2_with fail
    refine hK.out _ _ ?_ (fun hHeld => ?_)
    · exact True.intro
    clear hK K
    try simp only [Act.put, zA, zB, zC]
    refine wpAnyH_take (i := 20) (oi := { dst := some 36, op := Op.indexAddr 22 (Operand.tmp 16) (Operand.tmp 19), type := 0, pos := "zsortanyfunc.go:331", after := #[eD 0, eD 3, eP 0, eP 1, eP 2, eP 3, { on := 4, ground := Ground.textOnly Departure.lateStores }, { on := 5, ground := Ground.textOnly Departure.lateStores }, { on := 6, ground := Ground.textOnly Departure.lateStores }, { on := 7, ground := Ground.textOnly Departure.lateStores }, eP 8, eP 9, eP 10, eP 11, eP 12, eP 13, { on := 14, ground := Ground.textOnly Departure.lateStores }, { on := 15, ground := Ground.textOnly Departure.lateStores }, { on := 16, ground := Ground.textOnly Departure.lateStores }, { on := 17, ground := Ground.textOnly Departure.lateStores }, { on := 18, ground := Ground.textOnly Departure.lateStoresUnsure }, eP 19], guard := none }) (v := ?vq21x) rfl (by kernel_rfl) (by kernel_rfl) (by kernel_rfl) (fun _ _ _ h => h) (Or.inl ⟨by rfl, ?hyq21x⟩) (by assumption) ?restq21x
    case hyq21x => intro w hSw; (try dsimp only at hSw); go_simp; all_goals (with_reducible rfl)
    try simp only [Act.put, zA, zB, zC]
    refine wpAnyH_ready (rs := [21]) (by kernel_rfl) (by simp) ?_
    refine AllReadyH.cons (o := { dst := none, op := Op.store 28 (Operand.tmp 36) (Operand.tmp 29), type := 0, pos := "zsortanyfunc.go:331", after := #[eD 20, eD 13, eP 0, eP 1, eP 2, eP 3, { on := 4, ground := Ground.textOnly Departure.lateStores }, { on := 5, ground := Ground.textOnly Departure.lateStores }, { on := 6, ground := Ground.textOnly Departure.lateStores }, { on := 7, ground := Ground.textOnly Departure.lateStores }, eP 8, eP 9, eP 10, eP 11, eP 12, eP 13, { on := 14, ground := Ground.textOnly Departure.lateStores }, { on := 15, ground := Ground.textOnly Departure.lateStores }, { on := 16, ground := Ground.textOnly Departure.lateStores }, { on := 17, ground := Ground.textOnly Departure.lateStores }, { on := 18, ground := Ground.textOnly Departure.lateStoresUnsure }, eP 19], guard := none }) rfl (fun K hK => ?_) AllReadyH.nil
    try go_simp
    try go_wp2_with fail
    refine hK.out _ _ ?_ (fun hHeld => ?_)
    · exact True.intro
    clear hK K
    try simp only [Act.put, zA, zB, zC]
    clear u0 u1 u2 u3 u4 v0 v1 v2 v3 v4 t0 t1 t2 t3 t4 HS
    generalize ((((((wr.setCell ⟨g, p * 5, none⟩ (.int .i64 v.s)).setCell ⟨g, p * 5 + 1, none⟩ (.slice v.A v.n v.c)).setCell ⟨g, p * 5 + 2, none⟩ (.bool v.K.s)).setCell ⟨g, p * 5 + 3, none⟩ (.slice v.K.A v.K.n v.K.c)).setCell ⟨g, p * 5 + 4, none⟩ (.slice v.K.B v.K.m v.K.d)).drew) = W1 at *
    refine wpAnyH_take (i := 22) (oi := { dst := some 37, op := Op.indexAddr 22 (Operand.tmp 20) (Operand.tmp 23), type := 0, pos := "zsortanyfunc.go:331", after := #[eD 4, eD 7, eP 0, eP 1, eP 2, eP 3, eP 4, eP 5, eP 6, eP 7, eP 8, eP 9, eP 10, eP 11, eP 12, eP 13, eP 14, eP 15, eP 16, eP 17, eP 18, eP 19, eP 20, eP 21], guard := none }) (v := ?vq22x) rfl (by kernel_rfl) (by kernel_rfl) (by kernel_rfl) (fun _ _ _ h => h) (Or.inl ⟨by rfl, ?hyq22x⟩) (by assumption) ?restq22x
    case hyq22x => intro w hSw; (try dsimp only at hSw); go_simp; all_goals (with_reducible rfl)
    try simp only [Act.put, zA, zB, zC]
    refine wpAnyH_ready (rs := [23]) (by kernel_rfl) (by simp) ?_
    refine AllReadyH.cons (o := { dst := none, op := Op.store 28 (Operand.tmp 37) (Operand.tmp 35), type := 0, pos := "zsortanyfunc.go:331", after := #[eD 22, eD 19, eC 21, eP 0, eP 1, eP 2, eP 3, eP 4, eP 5, eP 6, eP 7, eP 8, eP 9, eP 10, eP 11, eP 12, eP 13, eP 14, eP 15, eP 16, eP 17, eP 18, eP 19, eP 20, eP 21], guard := none }) rfl (fun K hK => ?_) AllReadyH.nil
    try go_simp
    try go_wp2_with fail
    refine hK.out _ _ ?_ (fun hHeld => ?_)
    · exact True.intro
    clear hK K
    try simp only [Act.put, zA, zB, zC]
    refine wpAnyH_done (by kernel_rfl) ?_ _
    go_wp2
    go_roundw
    case rel => exact ⟨i + 1, by omega, by go_num, HSW⟩
    case measure => simp [intOf]; omega
  ·
   have i1 : ¬ (i : Int) < (k : Int) := by omega
   go_wp2
   refine bodyPost_end (results_none rfl _ _ _) rfl ?_
   exact ⟨rfl, HS.out⟩
end Go.Proofs.YtkfkjdpkkagjgaaGreat
