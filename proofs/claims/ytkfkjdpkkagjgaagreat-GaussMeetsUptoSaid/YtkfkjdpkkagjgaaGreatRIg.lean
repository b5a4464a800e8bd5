/-
  The document's Is of sums.
-/
import Derived.Test.YtkfkjdpkkagjgaaGreatIsD
import Derived.Deep.Cut
namespace Go.Proofs.YtkfkjdpkkagjgaaGreat
set_option maxRecDepth 20000
open Go.RowKit
open Operand (tmp)
theorem zR {α : Type} : (∀ (l : List α) (i : Nat) (a : α), l.toArray.setIfInBounds i a = (l.set i a).toArray) ∧ (∀ (a b : α) (l : List α), (a :: l).set 0 b = b :: l) ∧ ∀ (a b : α) (l : List α) (n : Nat), (a :: l).set (n + 1) b = a :: l.set n b := ⟨zA, zB, zC⟩
theorem rIs_v (v : Rv) (r : Rat) (bb : Bool) (w : World) (hv : Rw w v r 19000000000) (hbb : bb = true ↔ Nrm w v) :
  Calls Tryz.prog 46 #[.agg #[.bool v.s, .slice v.A v.n v.c, .slice v.B v.m v.d]] w fun e w' => e = .returned (.bool bb) ∧ Below w.heap.size w w' := by
 obtain ⟨_, _, _, _, a, b, ha, hb, hr⟩ := id hv
 refine rIs_c v a b r bb w hv ha hb hr (hbb.trans ⟨?_, fun h => ⟨a, b, ha, hb, h⟩⟩)
 rintro ⟨a', b', h1, h2, h3⟩
 have e1 := ha.det h1
 have e2 := hb.det h2
 subst e1 e2
 exact h3
theorem openK1 (w : World) (v : Cv) (W : World) (h : w.alloc (.cells #[.int .i64 v.s, .slice v.A v.n v.c, .bool v.K.s, .slice v.K.A v.K.n v.K.c, .slice v.K.B v.K.m v.K.d] 28) = W) : C5 W w.heap.size (.int .i64 v.s) (.slice v.A v.n v.c) (.bool v.K.s) (.slice v.K.A v.K.n v.K.c) (.slice v.K.B v.K.m v.K.d) ∧ Below w.heap.size w W ∧ W.heap.size = w.heap.size + 1 := by
 subst h
 exact ⟨C5.new w (.int .i64 v.s) (.slice v.A v.n v.c) (.bool v.K.s) (.slice v.K.A v.K.n v.K.c) (.slice v.K.B v.K.m v.K.d), (Below.refl w.heap.size w).alloc (Nat.le_refl _) _, by simp⟩
set_option maxHeartbeats 12800000 in
theorem rIsK_yes (va : Cv) (N : Int) (la : List Tv) (L : List (Int × Rat)) (k : Rat) (w : World) (_hN : 0 ≤ N ∧ N ≤ 9223372036854775807 ∨ N < 0 ∧ -9223372036854775808 ≤ N) (_hnc : va.n ≤ va.c) (ha2 : Tms w 0 va.A va.n la) (ha3 : Rds w 19000000000 la L) (ha4 : Rw w va.K k 19000000000) (hn : va.n ≤ 1000) (s0 : 0 ≤ va.s) (s4 : va.s ≤ 4) (hK : Nrm w va.K) (r : Bool) (hr : r = true ↔ TOk w N la la.length) :
  Calls Tryz.prog 21 #[.agg #[.int .i64 va.s, .slice va.A va.n va.c, .bool va.K.s, .slice va.K.A va.K.n va.K.c, .slice va.K.B va.K.m va.K.d], .int .i64 N] w fun e w' => e = .returned (.bool r) ∧ Below w.heap.size w w' := by
 have hr' := Lib.hid hr
 clear hr
 have n0 : (0 : Int) ≤ (va.n : Int) := by omega
 have n9 : (va.n : Int) ≤ 1000 := by omega
 have s0' : ¬ va.s < 0 := by omega
 have s4' : ¬ 4 < va.s := by omega
 have HW0 := Lib.hid (And.intro ha2 (And.intro ha3 ha4))
 have HKN := Lib.hid hK
 clear ha2 ha3 ha4 hK
 go_enter Tryz.func21, Tryz.ntmps21
 go_wp2_with fail
 generalize hW : w.alloc (.cells #[.int .i64 va.s, .slice va.A va.n va.c, .bool va.K.s, .slice va.K.A va.K.n va.K.c, .slice va.K.B va.K.m va.K.d] 28) = W
 obtain ⟨ka, HW, hsW⟩ := openK1 w va W hW
 clear hW
 refine (rIs_v va.K k true _ (HW0.out.2.2.below HW) ⟨fun _ => (Nrm.iff HW0.out.2.2 HW).1 HKN.out, fun _ => rfl⟩).mono ?_
 rintro e w1 ⟨rfl, hb1'⟩
 replace ka := ka.below hb1'
 have HB1 := Lib.hid (HW.trans (hb1'.mono (by omega)))
 have hs1 := hb1'.size
 clear hb1' HW
 obtain ⟨a0, a1, a2, a3, a4⟩ := ka.facts
 have KA := Lib.hid ka
 clear ka
 go_wp2
 clear a0 a1 a2 a3 a4
 have HT : Hid (TOk w N la 0) := fun j x hj => absurd hj (Nat.not_lt_zero _)
 go_loopw [5, 6] (fun iv _ wr => ∃ i : Nat, i ≤ va.n ∧ iv = .int .i64 i ∧ Hid (TOk w N la i) ∧ Hid (Below w1.heap.size w1 wr)) (fun iv _ _ => va.n - (intOf iv).toNat)
 case atStart => exact ⟨0, Nat.zero_le _, rfl, HT, Lib.hid (Below.refl _ _)⟩
 case round =>
  clear HT
  obtain ⟨i, hi, rfl, HT, HBR⟩ := hrel
  have ka := KA.out.below HBR.out
  have HBW := Lib.hid (HB1.out.trans (HBR.out.mono HB1.out.size))
  obtain ⟨a0, a1, a2, a3, a4⟩ := ka.facts
  by_cases hlt : i < va.n
  ·
   have i0 : (0 : Int) ≤ (i : Int) := by omega
   have i1 : (i : Int) < (va.n : Int) := by omega
   obtain ⟨g, off, hvA, _, hgw, hc⟩ := HW0.out.1.mem (by omega)
   rw [hvA] at a1
   have HVA := Lib.hid hvA
   obtain ⟨x, X, hx, hX, hxv, hxr⟩ := HW0.out.2.1.get i (by rw [HW0.out.1.len]; omega)
   obtain ⟨x0, x1, x2, x3⟩ := (hc i x hx).keep (HBW.out.block g hgw)
   have HX := Lib.hid hx
   have HXR := Lib.hid hxr
   have HC := Lib.hid hc
   clear hx hX hxv hc hxr hvA
   go_wp2_with fail
   have ax := At4.new wr x
   have hba : Below wr.heap.size wr (wr.alloc (.cells #[.int .i64 x.v, .bool x.r.s, .slice x.r.A x.r.n x.r.c, .slice x.r.B x.r.m x.r.d] 50)) := (Below.refl _ _).alloc (Nat.le_refl _) _
   have hzA : (wr.alloc (.cells #[.int .i64 x.v, .bool x.r.s, .slice x.r.A x.r.n x.r.c, .slice x.r.B x.r.m x.r.d] 50)).heap.size = wr.heap.size + 1 := by simp
   clear x0 x1 x2 x3 a0 a1 a2 a3 a4
   obtain ⟨x0, x1, x2, x3⟩ := ax
   have HBA := Lib.hid (HBR.out.trans (hba.mono HBR.out.size))
   have HBB := Lib.hid (HBW.out.trans (hba.mono HBW.out.size))
   have ka := ka.below hba
   clear hba
   generalize wr.alloc (.cells #[.int .i64 x.v, .bool x.r.s, .slice x.r.A x.r.n x.r.c, .slice x.r.B x.r.m x.r.d] 50) = WA at *
   obtain ⟨a0, a1, a2, a3, a4⟩ := ka.facts
   obtain ⟨g', off', hvA, _, _, _⟩ := HW0.out.1.mem (by omega)
   have HIN := Lib.hid (show i < la.length by rw [HW0.out.1.len]; exact hlt)
   have NO : Hid ((¬ (0 ≤ x.v ∧ x.v < N ∧ (∀ y, 0 < i → la[i - 1]? = some y → y.v < x.v) ∧ Nrm w x.r ∧ x.r.n ≠ 0)) → r = false) := fun h => by
    cases hrr : r with
    | false => rfl
    | true => exact absurd (hr'.out.1 hrr i x HIN.out HX.out) h
   clear hvA
   by_cases c1 : x.v < 0
   ·
    have NO1 := Lib.hid (NO.out (fun h => absurd h.1 (by omega)))
    go_quiet (fail)
    clear x0 x1 x2 x3 a0 a1 a2 a3 a4
    go_wp2
    go_ret
    exact ⟨by rw [NO1.out]; rfl, HBB.out.trans ((below_drewN' _ WA _).mono HBB.out.size)⟩
   by_cases c2 : N ≤ x.v
   ·
    have NO1 := Lib.hid (NO.out (fun h => absurd h.2.1 (by omega)))
    go_quiet (fail)
    clear x0 x1 x2 x3 a0 a1 a2 a3 a4
    go_wp2
    go_ret
    exact ⟨by rw [NO1.out]; rfl, HBB.out.trans ((below_drewN' _ WA _).mono HBB.out.size)⟩
   have c1' : ¬ x.v < 0 := c1
   have c2' : ¬ N ≤ x.v := c2
   rw [HVA.out] at a1
   cases i with
   |
    zero =>
    by_cases hN : Nrm w x.r
    ·
     have HN := Lib.hid hN
     refine wp_region_held_drew (S := fun w' => w'.cell? ⟨w.heap.size, 1, none⟩ = some (.slice (some ⟨g, off, none⟩) va.n va.c) ∧ w'.cell? ⟨wr.heap.size, 0, none⟩ = some (.int .i64 x.v) ∧ w'.cell? ⟨wr.heap.size, 0 + 1, none⟩ = some (.bool x.r.s) ∧ w'.cell? ⟨wr.heap.size, 0 + 2, none⟩ = some (.slice x.r.A x.r.n x.r.c) ∧ w'.cell? ⟨wr.heap.size, 0 + 3, none⟩ = some (.slice x.r.B x.r.m x.r.d)) (by kernel_rfl) ?_ (fun hHeld => ?_)
     ·
      (try dsimp only)
      go_keep
     refine wpAnyH_take (i := 0) (oi := { dst := some 33, op := Op.fieldAddr 50 (tmp 6) 0, type := 0, pos := "aff.go:24", after := #[], guard := none }) (v := ?va0) rfl (by kernel_rfl) (by kernel_rfl) (by kernel_rfl) (fun _ _ _ => id) (Or.inl ⟨by rfl, ?hya0⟩) (by assumption) ?resta0
     case hya0 => intro w hSw; (try dsimp only at hSw); go_simp; all_goals (with_reducible rfl)
     try simp only [Act.put, zR]
     refine wpAnyH_take (i := 1) (oi := { dst := some 34, op := Op.load 3 (tmp 33), type := 3, pos := "aff.go:24", after := #[eD 0], guard := none }) (v := ?va1) rfl (by kernel_rfl) (by kernel_rfl) (by kernel_rfl) (fun _ _ _ => id) (Or.inl ⟨by rfl, ?hya1⟩) (by assumption) ?resta1
     case hya1 => intro w hSw; (try dsimp only at hSw); go_simp; all_goals (with_reducible rfl)
     try simp only [Act.put, zR]
     refine wpAnyH_take (i := 2) (oi := { dst := some 35, op := Op.binOp BinOp.lss 3 (tmp 34) (Operand.const (Value.int IntKind.i64 0)) 3, type := 4, pos := "aff.go:24", after := #[eD 1], guard := none }) (v := ?va2) rfl (by kernel_rfl) (by kernel_rfl) (by kernel_rfl) (fun _ _ _ => id) (Or.inl ⟨by rfl, ?hya2⟩) (by assumption) ?resta2
     case hya2 => intro w hSw; (try dsimp only at hSw); go_simp; all_goals (with_reducible rfl)
     try simp only [Act.put, zR]
     refine wpAnyH_take (i := 3) (oi := { dst := some 36, op := Op.move (tmp 35), type := 4, pos := "aff.go:24", after := #[eD 2], guard := none }) (v := ?va3) rfl (by kernel_rfl) (by kernel_rfl) (by kernel_rfl) (fun _ _ _ => id) (Or.inl ⟨by rfl, ?hya3⟩) (by assumption) ?resta3
     case hya3 => intro w hSw; (try dsimp only at hSw); go_simp; all_goals (with_reducible rfl)
     try simp only [Act.put, zR]
     refine wpAnyH_take (i := 4) (oi := { dst := some 37, op := Op.fieldAddr 50 (tmp 6) 0, type := 0, pos := "aff.go:24", after := #[eG 3], guard := some (3, false) }) (v := ?va4) rfl (by kernel_rfl) (by kernel_rfl) (by kernel_rfl) (fun _ _ _ => id) (Or.inl ⟨by rfl, ?hya4⟩) (by assumption) ?resta4
     case hya4 => intro w hSw; (try dsimp only at hSw); go_simp; all_goals (with_reducible rfl)
     try simp only [Act.put, zR]
     refine wpAnyH_take (i := 5) (oi := { dst := some 38, op := Op.load 3 (tmp 37), type := 3, pos := "aff.go:24", after := #[eD 4, eG 3], guard := some (3, false) }) (v := ?va5) rfl (by kernel_rfl) (by kernel_rfl) (by kernel_rfl) (fun _ _ _ => id) (Or.inl ⟨by rfl, ?hya5⟩) (by assumption) ?resta5
     case hya5 => intro w hSw; (try dsimp only at hSw); go_simp; all_goals (with_reducible rfl)
     try simp only [Act.put, zR]
     refine wpAnyH_take (i := 6) (oi := { dst := some 39, op := Op.move (tmp 1), type := 3, pos := "aff.go:24", after := #[eG 3], guard := some (3, false) }) (v := ?va6) rfl (by kernel_rfl) (by kernel_rfl) (by kernel_rfl) (fun _ _ _ => id) (Or.inl ⟨by rfl, ?hya6⟩) (by assumption) ?resta6
     case hya6 => intro w hSw; (try dsimp only at hSw); go_simp; all_goals (with_reducible rfl)
     try simp only [Act.put, zR]
     refine wpAnyH_take (i := 7) (oi := { dst := some 40, op := Op.binOp BinOp.geq 3 (tmp 38) (tmp 39) 3, type := 4, pos := "aff.go:24", after := #[eD 5, eD 6, eG 3], guard := some (3, false) }) (v := ?va7) rfl (by kernel_rfl) (by kernel_rfl) (by kernel_rfl) (fun _ _ _ => id) (Or.inl ⟨by rfl, ?hya7⟩) (by assumption) ?resta7
     case hya7 => intro w hSw; (try dsimp only at hSw); go_simp; all_goals (with_reducible rfl)
     try simp only [Act.put, zR]
     refine wpAnyH_take (i := 8) (oi := { dst := some 41, op := Op.pick (tmp 36) (Operand.const (Value.bool true)) (tmp 40), type := 4, pos := "aff.go:24", after := #[eD 3, eD 7], guard := none }) (v := ?va8) rfl (by kernel_rfl) (by kernel_rfl) (by kernel_rfl) (fun _ _ _ => id) (Or.inl ⟨by rfl, ?hya8⟩) (by assumption) ?resta8
     case hya8 => intro w hSw; (try dsimp only at hSw); go_simp; all_goals (with_reducible rfl)
     try simp only [Act.put, zR]
     refine wpAnyH_take (i := 9) (oi := { dst := some 42, op := Op.move (tmp 41), type := 4, pos := "aff.go:24", after := #[eD 8, eC 3], guard := none }) (v := ?va9) rfl (by kernel_rfl) (by kernel_rfl) (by kernel_rfl) (fun _ _ _ => id) (Or.inl ⟨by rfl, ?hya9⟩) (by assumption) ?resta9
     case hya9 => intro w hSw; (try dsimp only at hSw); go_simp; all_goals (with_reducible rfl)
     try simp only [Act.put, zR]
     refine wpAnyH_take (i := 10) (oi := { dst := some 43, op := Op.move (tmp 5), type := 3, pos := "aff.go:24", after := #[eG 9], guard := some (9, false) }) (v := ?va10) rfl (by kernel_rfl) (by kernel_rfl) (by kernel_rfl) (fun _ _ _ => id) (Or.inl ⟨by rfl, ?hya10⟩) (by assumption) ?resta10
     case hya10 => intro w hSw; (try dsimp only at hSw); go_simp; all_goals (with_reducible rfl)
     try simp only [Act.put, zR]
     refine wpAnyH_take (i := 11) (oi := { dst := some 44, op := Op.binOp BinOp.gtr 3 (tmp 43) (Operand.const (Value.int IntKind.i64 0)) 3, type := 4, pos := "aff.go:24", after := #[eD 10, eG 9], guard := some (9, false) }) (v := ?va11) rfl (by kernel_rfl) (by kernel_rfl) (by kernel_rfl) (fun _ _ _ => id) (Or.inl ⟨by rfl, ?hya11⟩) (by assumption) ?resta11
     case hya11 => intro w hSw; (try dsimp only at hSw); go_simp; all_goals (with_reducible rfl)
     try simp only [Act.put, zR]
     refine wpAnyH_take (i := 12) (oi := { dst := some 45, op := Op.move (tmp 44), type := 4, pos := "aff.go:24", after := #[eD 11, eC 9, eG 9], guard := some (9, false) }) (v := ?va12) rfl (by kernel_rfl) (by kernel_rfl) (by kernel_rfl) (fun _ _ _ => id) (Or.inl ⟨by rfl, ?hya12⟩) (by assumption) ?resta12
     case hya12 => intro w hSw; (try dsimp only at hSw); go_simp; all_goals (with_reducible rfl)
     try simp only [Act.put, zR]
     refine wpAnyH_take (i := 13) (oi := { dst := some 46, op := Op.fieldAddr 28 (tmp 2) 1, type := 0, pos := "aff.go:24", after := #[eG 12], guard := some (12, true) }) (v := undef) rfl (by kernel_rfl) (by kernel_rfl) (by kernel_rfl) (fun _ _ _ => id) (Or.inr ⟨by rfl, rfl⟩) (by assumption) ?_
     try simp only [Act.put, zR]
     refine wpAnyH_take (i := 14) (oi := { dst := some 47, op := Op.load 23 (tmp 46), type := 23, pos := "aff.go:24", after := #[eD 13, eG 12], guard := some (12, true) }) (v := undef) rfl (by kernel_rfl) (by kernel_rfl) (by kernel_rfl) (fun _ _ _ => id) (Or.inr ⟨by rfl, rfl⟩) (by assumption) ?_
     try simp only [Act.put, zR]
     refine wpAnyH_take (i := 15) (oi := { dst := some 48, op := Op.move (tmp 5), type := 3, pos := "aff.go:24", after := #[eG 12], guard := some (12, true) }) (v := undef) rfl (by kernel_rfl) (by kernel_rfl) (by kernel_rfl) (fun _ _ _ => id) (Or.inr ⟨by rfl, rfl⟩) (by assumption) ?_
     try simp only [Act.put, zR]
     refine wpAnyH_take (i := 16) (oi := { dst := some 49, op := Op.binOp BinOp.sub 3 (tmp 48) (Operand.const (Value.int IntKind.i64 1)) 3, type := 3, pos := "aff.go:24", after := #[eD 15, eG 12], guard := some (12, true) }) (v := undef) rfl (by kernel_rfl) (by kernel_rfl) (by kernel_rfl) (fun _ _ _ => id) (Or.inr ⟨by rfl, rfl⟩) (by assumption) ?_
     try simp only [Act.put, zR]
     refine wpAnyH_take (i := 17) (oi := { dst := some 50, op := Op.indexAddr 23 (tmp 47) (tmp 49), type := 0, pos := "aff.go:24", after := #[eD 14, eD 16, eG 12], guard := some (12, true) }) (v := undef) rfl (by kernel_rfl) (by kernel_rfl) (by kernel_rfl) (fun _ _ _ => id) (Or.inr ⟨by rfl, rfl⟩) (by assumption) ?_
     try simp only [Act.put, zR]
     refine wpAnyH_take (i := 18) (oi := { dst := some 51, op := Op.fieldAddr 50 (tmp 50) 0, type := 0, pos := "aff.go:24", after := #[eD 17, eG 12], guard := some (12, true) }) (v := undef) rfl (by kernel_rfl) (by kernel_rfl) (by kernel_rfl) (fun _ _ _ => id) (Or.inr ⟨by rfl, rfl⟩) (by assumption) ?_
     try simp only [Act.put, zR]
     refine wpAnyH_take (i := 19) (oi := { dst := some 52, op := Op.load 3 (tmp 51), type := 3, pos := "aff.go:24", after := #[eD 18, eG 12], guard := some (12, true) }) (v := undef) rfl (by kernel_rfl) (by kernel_rfl) (by kernel_rfl) (fun _ _ _ => id) (Or.inr ⟨by rfl, rfl⟩) (by assumption) ?_
     try simp only [Act.put, zR]
     refine wpAnyH_take (i := 20) (oi := { dst := some 53, op := Op.fieldAddr 50 (tmp 6) 0, type := 0, pos := "aff.go:24", after := #[eG 12], guard := some (12, true) }) (v := undef) rfl (by kernel_rfl) (by kernel_rfl) (by kernel_rfl) (fun _ _ _ => id) (Or.inr ⟨by rfl, rfl⟩) (by assumption) ?_
     try simp only [Act.put, zR]
     refine wpAnyH_take (i := 21) (oi := { dst := some 54, op := Op.load 3 (tmp 53), type := 3, pos := "aff.go:24", after := #[eD 20, eG 12], guard := some (12, true) }) (v := undef) rfl (by kernel_rfl) (by kernel_rfl) (by kernel_rfl) (fun _ _ _ => id) (Or.inr ⟨by rfl, rfl⟩) (by assumption) ?_
     try simp only [Act.put, zR]
     refine wpAnyH_take (i := 22) (oi := { dst := some 55, op := Op.binOp BinOp.geq 3 (tmp 52) (tmp 54) 3, type := 4, pos := "aff.go:24", after := #[eD 19, eD 21, eG 12], guard := some (12, true) }) (v := undef) rfl (by kernel_rfl) (by kernel_rfl) (by kernel_rfl) (fun _ _ _ => id) (Or.inr ⟨by rfl, rfl⟩) (by assumption) ?_
     try simp only [Act.put, zR]
     refine wpAnyH_take (i := 23) (oi := { dst := some 56, op := Op.pick (tmp 45) (tmp 55) (Operand.const (Value.bool false)), type := 4, pos := "aff.go:24", after := #[eD 12, eD 22, eG 9], guard := some (9, false) }) (v := ?va23) rfl (by kernel_rfl) (by kernel_rfl) (by kernel_rfl) (fun _ _ _ => id) (Or.inl ⟨by rfl, ?hya23⟩) (by assumption) ?resta23
     case hya23 => intro w hSw; (try dsimp only at hSw); go_simp; all_goals (with_reducible rfl)
     try simp only [Act.put, zR]
     refine wpAnyH_take (i := 24) (oi := { dst := some 57, op := Op.pick (tmp 42) (Operand.const (Value.bool true)) (tmp 56), type := 4, pos := "aff.go:24", after := #[eD 9, eD 23], guard := none }) (v := ?va24) rfl (by kernel_rfl) (by kernel_rfl) (by kernel_rfl) (fun _ _ _ => id) (Or.inl ⟨by rfl, ?hya24⟩) (by assumption) ?resta24
     case hya24 => intro w hSw; (try dsimp only at hSw); go_simp; all_goals (with_reducible rfl)
     try simp only [Act.put, zR]
     refine wpAnyH_take (i := 25) (oi := { dst := some 58, op := Op.move (tmp 57), type := 4, pos := "aff.go:24", after := #[eD 24, eC 12], guard := none }) (v := ?va25) rfl (by kernel_rfl) (by kernel_rfl) (by kernel_rfl) (fun _ _ _ => id) (Or.inl ⟨by rfl, ?hya25⟩) (by assumption) ?resta25
     case hya25 => intro w hSw; (try dsimp only at hSw); go_simp; all_goals (with_reducible rfl)
     try simp only [Act.put, zR]
     refine wpAnyH_take (i := 26) (oi := { dst := some 59, op := Op.fieldAddr 50 (tmp 6) 1, type := 0, pos := "aff.go:24", after := #[eG 25], guard := some (25, false) }) (v := ?va26) rfl (by kernel_rfl) (by kernel_rfl) (by kernel_rfl) (fun _ _ _ => id) (Or.inl ⟨by rfl, ?hya26⟩) (by assumption) ?resta26
     case hya26 => intro w hSw; (try dsimp only at hSw); go_simp; all_goals (with_reducible rfl)
     try simp only [Act.put, zR]
     refine wpAnyH_take (i := 27) (oi := { dst := some 60, op := Op.load 26 (tmp 59), type := 26, pos := "aff.go:24", after := #[eD 26, eG 25], guard := some (25, false) }) (v := ?va27) rfl (by kernel_rfl) (by kernel_rfl) (by kernel_rfl) (fun _ _ _ => id) (Or.inl ⟨by rfl, ?hya27⟩) (by assumption) ?resta27
     case hya27 => intro w hSw; (try dsimp only at hSw); go_simp; all_goals (with_reducible rfl)
     try simp only [Act.put, zR]
     refine wpAnyH_ready (rs := [28]) (by kernel_rfl) (by simp) ?_
     refine AllReadyH.cons (o := { dst := some 61, op := Op.call { callee := Callee.value (Operand.func 46), args := #[tmp 60], argTypes := #[26] }, type := 4, pos := "aff.go:24", after := #[eD 27, eC 25, eG 25], guard := some (25, false) }) rfl (fun K hK => ?_) AllReadyH.nil
     go_simp
     go_at_call 46
     refine (rIs_v x.r X.2 true _ ((HXR.out.below HBB.out).below (bel1 WA)) ⟨fun _ => (Nrm.iff HXR.out (HBB.out.trans ((bel1 WA).mono HBB.out.size))).1 hN, fun _ => rfl⟩).mono ?_
     rintro ee w2 ⟨rfl, hb⟩
     have hb' := (bel1 WA).trans hb
     have hk := hb'.block wr.heap.size (by omega)
     obtain ⟨a0, a1, a2, a3, a4⟩ := (ka.below hb').facts
     rw [HVA.out] at a1
     replace x0 := (World.cell?_of_block hk).trans x0
     replace x1 := (World.cell?_of_block hk).trans x1
     replace x2 := (World.cell?_of_block hk).trans x2
     replace x3 := (World.cell?_of_block hk).trans x3
     have HB9 := Lib.hid (HBA.out.trans (hb'.mono HBA.out.size))
     have HB8 := Lib.hid (HBB.out.trans (hb'.mono HBB.out.size))
     clear hk hb hb'
     try go_wp2_with fail
     refine hK.out _ _ ?_ fun hHeld => ?_
     · (try dsimp only); go_keep
     clear hK K
     try simp only [Act.put, zR]
     refine wpAnyH_take (i := 29) (oi := { dst := some 62, op := Op.unOp UnOp.not 4 (tmp 61), type := 4, pos := "aff.go:24", after := #[eD 28, eG 25], guard := some (25, false) }) (v := ?va29) rfl (by kernel_rfl) (by kernel_rfl) (by kernel_rfl) (fun _ _ _ => id) (Or.inl ⟨by rfl, ?hya29⟩) (by assumption) ?resta29
     case hya29 => intro w hSw; (try dsimp only at hSw); go_simp; all_goals (with_reducible rfl)
     try simp only [Act.put, zR]
     refine wpAnyH_take (i := 30) (oi := { dst := some 63, op := Op.pick (tmp 58) (Operand.const (Value.bool true)) (tmp 62), type := 4, pos := "aff.go:24", after := #[eD 25, eD 29], guard := none }) (v := ?va30) rfl (by kernel_rfl) (by kernel_rfl) (by kernel_rfl) (fun _ _ _ => id) (Or.inl ⟨by rfl, ?hya30⟩) (by assumption) ?resta30
     case hya30 => intro w hSw; (try dsimp only at hSw); go_simp; all_goals (with_reducible rfl)
     try simp only [Act.put, zR]
     refine wpAnyH_take (i := 31) (oi := { dst := some 64, op := Op.move (tmp 63), type := 4, pos := "aff.go:24", after := #[eD 30, eC 28], guard := none }) (v := ?va31) rfl (by kernel_rfl) (by kernel_rfl) (by kernel_rfl) (fun _ _ _ => id) (Or.inl ⟨by rfl, ?hya31⟩) (by assumption) ?resta31
     case hya31 => intro w hSw; (try dsimp only at hSw); go_simp; all_goals (with_reducible rfl)
     try simp only [Act.put, zR]
     refine wpAnyH_take (i := 32) (oi := { dst := some 65, op := Op.fieldAddr 50 (tmp 6) 1, type := 0, pos := "aff.go:24", after := #[eG 31], guard := some (31, false) }) (v := ?va32) rfl (by kernel_rfl) (by kernel_rfl) (by kernel_rfl) (fun _ _ _ => id) (Or.inl ⟨by rfl, ?hya32⟩) (by assumption) ?resta32
     case hya32 => intro w hSw; (try dsimp only at hSw); go_simp; all_goals (with_reducible rfl)
     try simp only [Act.put, zR]
     refine wpAnyH_take (i := 33) (oi := { dst := some 66, op := Op.fieldAddr 26 (tmp 65) 1, type := 0, pos := "aff.go:24", after := #[eD 32, eG 31], guard := some (31, false) }) (v := ?va33) rfl (by kernel_rfl) (by kernel_rfl) (by kernel_rfl) (fun _ _ _ => id) (Or.inl ⟨by rfl, ?hya33⟩) (by assumption) ?resta33
     case hya33 => intro w hSw; (try dsimp only at hSw); go_simp; all_goals (with_reducible rfl)
     try simp only [Act.put, zR]
     refine wpAnyH_take (i := 34) (oi := { dst := some 67, op := Op.load 24 (tmp 66), type := 24, pos := "aff.go:24", after := #[eD 33, eG 31], guard := some (31, false) }) (v := ?va34) rfl (by kernel_rfl) (by kernel_rfl) (by kernel_rfl) (fun _ _ _ => id) (Or.inl ⟨by rfl, ?hya34⟩) (by assumption) ?resta34
     case hya34 => intro w hSw; (try dsimp only at hSw); go_simp; all_goals (with_reducible rfl)
     try simp only [Act.put, zR]
     refine wpAnyH_take (i := 35) (oi := { dst := some 68, op := Op.call { callee := Callee.builtin Builtin.len, args := #[tmp 67], argTypes := #[24] }, type := 3, pos := "aff.go:24", after := #[eD 34, eG 31], guard := some (31, false) }) (v := ?va35) rfl (by kernel_rfl) (by kernel_rfl) (by kernel_rfl) (fun _ _ _ => id) (Or.inl ⟨by rfl, ?hya35⟩) (by assumption) ?resta35
     case hya35 => intro w hSw; (try dsimp only at hSw); go_simp; all_goals (with_reducible rfl)
     try simp only [Act.put, zR]
     refine wpAnyH_take (i := 36) (oi := { dst := some 69, op := Op.binOp BinOp.eql 3 (tmp 68) (Operand.const (Value.int IntKind.i64 0)) 3, type := 4, pos := "aff.go:24", after := #[eD 35, eG 31], guard := some (31, false) }) (v := ?va36) rfl (by kernel_rfl) (by kernel_rfl) (by kernel_rfl) (fun _ _ _ => id) (Or.inl ⟨by rfl, ?hya36⟩) (by assumption) ?resta36
     case hya36 => intro w hSw; (try dsimp only at hSw); go_simp; all_goals (with_reducible rfl)
     try simp only [Act.put, zR]
     refine wpAnyH_take (i := 37) (oi := { dst := some 70, op := Op.pick (tmp 64) (Operand.const (Value.bool true)) (tmp 69), type := 4, pos := "aff.go:24", after := #[eD 31, eD 36], guard := none }) (v := ?va37) rfl (by kernel_rfl) (by kernel_rfl) (by kernel_rfl) (fun _ _ _ => id) (Or.inl ⟨by rfl, ?hya37⟩) (by assumption) ?resta37
     case hya37 => intro w hSw; (try dsimp only at hSw); go_simp; all_goals (with_reducible rfl)
     try simp only [Act.put, zR]
     refine wpAnyH_done (by kernel_rfl) ?_ _
     clear x0 x1 x2 x3 a0 a1 a2 a3 a4 hN
     by_cases c5 : x.r.n = 0
     ·
      have c5' : (x.r.n : Int) = 0 := by omega
      have NO1 := Lib.hid (NO.out (fun h => h.2.2.2.2 c5))
      clear c5
      go_wp2
      go_ret
      exact ⟨by rw [NO1.out]; rfl, HB8.out⟩
     ·
      have c5' : ¬ (x.r.n : Int) = 0 := by omega
      have C5' := Lib.hid c5
      clear c5
      go_wp2
      go_roundw
      case rel => exact ⟨0 + 1, by omega, by go_num, HT.out.step HX.out (by omega) (by omega) (fun _ h9 _ => absurd h9 (Nat.lt_irrefl _)) HN.out C5'.out, HB9⟩
      case measure => simp [intOf]; omega
    ·
     have HN := Lib.hid hN
     refine wp_region_held_drew (S := fun w' => w'.cell? ⟨w.heap.size, 1, none⟩ = some (.slice (some ⟨g, off, none⟩) va.n va.c) ∧ w'.cell? ⟨wr.heap.size, 0, none⟩ = some (.int .i64 x.v) ∧ w'.cell? ⟨wr.heap.size, 0 + 1, none⟩ = some (.bool x.r.s) ∧ w'.cell? ⟨wr.heap.size, 0 + 2, none⟩ = some (.slice x.r.A x.r.n x.r.c) ∧ w'.cell? ⟨wr.heap.size, 0 + 3, none⟩ = some (.slice x.r.B x.r.m x.r.d)) (by kernel_rfl) ?_ (fun hHeld => ?_)
     ·
      (try dsimp only)
      go_keep
     refine wpAnyH_take (i := 0) (oi := { dst := some 33, op := Op.fieldAddr 50 (tmp 6) 0, type := 0, pos := "aff.go:24", after := #[], guard := none }) (v := ?vb0) rfl (by kernel_rfl) (by kernel_rfl) (by kernel_rfl) (fun _ _ _ => id) (Or.inl ⟨by rfl, ?hyb0⟩) (by assumption) ?restb0
     case hyb0 => intro w hSw; (try dsimp only at hSw); go_simp; all_goals (with_reducible rfl)
     try simp only [Act.put, zR]
     refine wpAnyH_take (i := 1) (oi := { dst := some 34, op := Op.load 3 (tmp 33), type := 3, pos := "aff.go:24", after := #[eD 0], guard := none }) (v := ?vb1) rfl (by kernel_rfl) (by kernel_rfl) (by kernel_rfl) (fun _ _ _ => id) (Or.inl ⟨by rfl, ?hyb1⟩) (by assumption) ?restb1
     case hyb1 => intro w hSw; (try dsimp only at hSw); go_simp; all_goals (with_reducible rfl)
     try simp only [Act.put, zR]
     refine wpAnyH_take (i := 2) (oi := { dst := some 35, op := Op.binOp BinOp.lss 3 (tmp 34) (Operand.const (Value.int IntKind.i64 0)) 3, type := 4, pos := "aff.go:24", after := #[eD 1], guard := none }) (v := ?vb2) rfl (by kernel_rfl) (by kernel_rfl) (by kernel_rfl) (fun _ _ _ => id) (Or.inl ⟨by rfl, ?hyb2⟩) (by assumption) ?restb2
     case hyb2 => intro w hSw; (try dsimp only at hSw); go_simp; all_goals (with_reducible rfl)
     try simp only [Act.put, zR]
     refine wpAnyH_take (i := 3) (oi := { dst := some 36, op := Op.move (tmp 35), type := 4, pos := "aff.go:24", after := #[eD 2], guard := none }) (v := ?vb3) rfl (by kernel_rfl) (by kernel_rfl) (by kernel_rfl) (fun _ _ _ => id) (Or.inl ⟨by rfl, ?hyb3⟩) (by assumption) ?restb3
     case hyb3 => intro w hSw; (try dsimp only at hSw); go_simp; all_goals (with_reducible rfl)
     try simp only [Act.put, zR]
     refine wpAnyH_take (i := 4) (oi := { dst := some 37, op := Op.fieldAddr 50 (tmp 6) 0, type := 0, pos := "aff.go:24", after := #[eG 3], guard := some (3, false) }) (v := ?vb4) rfl (by kernel_rfl) (by kernel_rfl) (by kernel_rfl) (fun _ _ _ => id) (Or.inl ⟨by rfl, ?hyb4⟩) (by assumption) ?restb4
     case hyb4 => intro w hSw; (try dsimp only at hSw); go_simp; all_goals (with_reducible rfl)
     try simp only [Act.put, zR]
     refine wpAnyH_take (i := 5) (oi := { dst := some 38, op := Op.load 3 (tmp 37), type := 3, pos := "aff.go:24", after := #[eD 4, eG 3], guard := some (3, false) }) (v := ?vb5) rfl (by kernel_rfl) (by kernel_rfl) (by kernel_rfl) (fun _ _ _ => id) (Or.inl ⟨by rfl, ?hyb5⟩) (by assumption) ?restb5
     case hyb5 => intro w hSw; (try dsimp only at hSw); go_simp; all_goals (with_reducible rfl)
     try simp only [Act.put, zR]
     refine wpAnyH_take (i := 6) (oi := { dst := some 39, op := Op.move (tmp 1), type := 3, pos := "aff.go:24", after := #[eG 3], guard := some (3, false) }) (v := ?vb6) rfl (by kernel_rfl) (by kernel_rfl) (by kernel_rfl) (fun _ _ _ => id) (Or.inl ⟨by rfl, ?hyb6⟩) (by assumption) ?restb6
     case hyb6 => intro w hSw; (try dsimp only at hSw); go_simp; all_goals (with_reducible rfl)
     try simp only [Act.put, zR]
     refine wpAnyH_take (i := 7) (oi := { dst := some 40, op := Op.binOp BinOp.geq 3 (tmp 38) (tmp 39) 3, type := 4, pos := "aff.go:24", after := #[eD 5, eD 6, eG 3], guard := some (3, false) }) (v := ?vb7) rfl (by kernel_rfl) (by kernel_rfl) (by kernel_rfl) (fun _ _ _ => id) (Or.inl ⟨by rfl, ?hyb7⟩) (by assumption) ?restb7
     case hyb7 => intro w hSw; (try dsimp only at hSw); go_simp; all_goals (with_reducible rfl)
     try simp only [Act.put, zR]
     refine wpAnyH_take (i := 8) (oi := { dst := some 41, op := Op.pick (tmp 36) (Operand.const (Value.bool true)) (tmp 40), type := 4, pos := "aff.go:24", after := #[eD 3, eD 7], guard := none }) (v := ?vb8) rfl (by kernel_rfl) (by kernel_rfl) (by kernel_rfl) (fun _ _ _ => id) (Or.inl ⟨by rfl, ?hyb8⟩) (by assumption) ?restb8
     case hyb8 => intro w hSw; (try dsimp only at hSw); go_simp; all_goals (with_reducible rfl)
     try simp only [Act.put, zR]
     refine wpAnyH_take (i := 9) (oi := { dst := some 42, op := Op.move (tmp 41), type := 4, pos := "aff.go:24", after := #[eD 8, eC 3], guard := none }) (v := ?vb9) rfl (by kernel_rfl) (by kernel_rfl) (by kernel_rfl) (fun _ _ _ => id) (Or.inl ⟨by rfl, ?hyb9⟩) (by assumption) ?restb9
     case hyb9 => intro w hSw; (try dsimp only at hSw); go_simp; all_goals (with_reducible rfl)
     try simp only [Act.put, zR]
     refine wpAnyH_take (i := 10) (oi := { dst := some 43, op := Op.move (tmp 5), type := 3, pos := "aff.go:24", after := #[eG 9], guard := some (9, false) }) (v := ?vb10) rfl (by kernel_rfl) (by kernel_rfl) (by kernel_rfl) (fun _ _ _ => id) (Or.inl ⟨by rfl, ?hyb10⟩) (by assumption) ?restb10
     case hyb10 => intro w hSw; (try dsimp only at hSw); go_simp; all_goals (with_reducible rfl)
     try simp only [Act.put, zR]
     refine wpAnyH_take (i := 11) (oi := { dst := some 44, op := Op.binOp BinOp.gtr 3 (tmp 43) (Operand.const (Value.int IntKind.i64 0)) 3, type := 4, pos := "aff.go:24", after := #[eD 10, eG 9], guard := some (9, false) }) (v := ?vb11) rfl (by kernel_rfl) (by kernel_rfl) (by kernel_rfl) (fun _ _ _ => id) (Or.inl ⟨by rfl, ?hyb11⟩) (by assumption) ?restb11
     case hyb11 => intro w hSw; (try dsimp only at hSw); go_simp; all_goals (with_reducible rfl)
     try simp only [Act.put, zR]
     refine wpAnyH_take (i := 12) (oi := { dst := some 45, op := Op.move (tmp 44), type := 4, pos := "aff.go:24", after := #[eD 11, eC 9, eG 9], guard := some (9, false) }) (v := ?vb12) rfl (by kernel_rfl) (by kernel_rfl) (by kernel_rfl) (fun _ _ _ => id) (Or.inl ⟨by rfl, ?hyb12⟩) (by assumption) ?restb12
     case hyb12 => intro w hSw; (try dsimp only at hSw); go_simp; all_goals (with_reducible rfl)
     try simp only [Act.put, zR]
     refine wpAnyH_take (i := 13) (oi := { dst := some 46, op := Op.fieldAddr 28 (tmp 2) 1, type := 0, pos := "aff.go:24", after := #[eG 12], guard := some (12, true) }) (v := undef) rfl (by kernel_rfl) (by kernel_rfl) (by kernel_rfl) (fun _ _ _ => id) (Or.inr ⟨by rfl, rfl⟩) (by assumption) ?_
     try simp only [Act.put, zR]
     refine wpAnyH_take (i := 14) (oi := { dst := some 47, op := Op.load 23 (tmp 46), type := 23, pos := "aff.go:24", after := #[eD 13, eG 12], guard := some (12, true) }) (v := undef) rfl (by kernel_rfl) (by kernel_rfl) (by kernel_rfl) (fun _ _ _ => id) (Or.inr ⟨by rfl, rfl⟩) (by assumption) ?_
     try simp only [Act.put, zR]
     refine wpAnyH_take (i := 15) (oi := { dst := some 48, op := Op.move (tmp 5), type := 3, pos := "aff.go:24", after := #[eG 12], guard := some (12, true) }) (v := undef) rfl (by kernel_rfl) (by kernel_rfl) (by kernel_rfl) (fun _ _ _ => id) (Or.inr ⟨by rfl, rfl⟩) (by assumption) ?_
     try simp only [Act.put, zR]
     refine wpAnyH_take (i := 16) (oi := { dst := some 49, op := Op.binOp BinOp.sub 3 (tmp 48) (Operand.const (Value.int IntKind.i64 1)) 3, type := 3, pos := "aff.go:24", after := #[eD 15, eG 12], guard := some (12, true) }) (v := undef) rfl (by kernel_rfl) (by kernel_rfl) (by kernel_rfl) (fun _ _ _ => id) (Or.inr ⟨by rfl, rfl⟩) (by assumption) ?_
     try simp only [Act.put, zR]
     refine wpAnyH_take (i := 17) (oi := { dst := some 50, op := Op.indexAddr 23 (tmp 47) (tmp 49), type := 0, pos := "aff.go:24", after := #[eD 14, eD 16, eG 12], guard := some (12, true) }) (v := undef) rfl (by kernel_rfl) (by kernel_rfl) (by kernel_rfl) (fun _ _ _ => id) (Or.inr ⟨by rfl, rfl⟩) (by assumption) ?_
     try simp only [Act.put, zR]
     refine wpAnyH_take (i := 18) (oi := { dst := some 51, op := Op.fieldAddr 50 (tmp 50) 0, type := 0, pos := "aff.go:24", after := #[eD 17, eG 12], guard := some (12, true) }) (v := undef) rfl (by kernel_rfl) (by kernel_rfl) (by kernel_rfl) (fun _ _ _ => id) (Or.inr ⟨by rfl, rfl⟩) (by assumption) ?_
     try simp only [Act.put, zR]
     refine wpAnyH_take (i := 19) (oi := { dst := some 52, op := Op.load 3 (tmp 51), type := 3, pos := "aff.go:24", after := #[eD 18, eG 12], guard := some (12, true) }) (v := undef) rfl (by kernel_rfl) (by kernel_rfl) (by kernel_rfl) (fun _ _ _ => id) (Or.inr ⟨by rfl, rfl⟩) (by assumption) ?_
     try simp only [Act.put, zR]
     refine wpAnyH_take (i := 20) (oi := { dst := some 53, op := Op.fieldAddr 50 (tmp 6) 0, type := 0, pos := "aff.go:24", after := #[eG 12], guard := some (12, true) }) (v := undef) rfl (by kernel_rfl) (by kernel_rfl) (by kernel_rfl) (fun _ _ _ => id) (Or.inr ⟨by rfl, rfl⟩) (by assumption) ?_
     try simp only [Act.put, zR]
     refine wpAnyH_take (i := 21) (oi := { dst := some 54, op := Op.load 3 (tmp 53), type := 3, pos := "aff.go:24", after := #[eD 20, eG 12], guard := some (12, true) }) (v := undef) rfl (by kernel_rfl) (by kernel_rfl) (by kernel_rfl) (fun _ _ _ => id) (Or.inr ⟨by rfl, rfl⟩) (by assumption) ?_
     try simp only [Act.put, zR]
     refine wpAnyH_take (i := 22) (oi := { dst := some 55, op := Op.binOp BinOp.geq 3 (tmp 52) (tmp 54) 3, type := 4, pos := "aff.go:24", after := #[eD 19, eD 21, eG 12], guard := some (12, true) }) (v := undef) rfl (by kernel_rfl) (by kernel_rfl) (by kernel_rfl) (fun _ _ _ => id) (Or.inr ⟨by rfl, rfl⟩) (by assumption) ?_
     try simp only [Act.put, zR]
     refine wpAnyH_take (i := 23) (oi := { dst := some 56, op := Op.pick (tmp 45) (tmp 55) (Operand.const (Value.bool false)), type := 4, pos := "aff.go:24", after := #[eD 12, eD 22, eG 9], guard := some (9, false) }) (v := ?vb23) rfl (by kernel_rfl) (by kernel_rfl) (by kernel_rfl) (fun _ _ _ => id) (Or.inl ⟨by rfl, ?hyb23⟩) (by assumption) ?restb23
     case hyb23 => intro w hSw; (try dsimp only at hSw); go_simp; all_goals (with_reducible rfl)
     try simp only [Act.put, zR]
     refine wpAnyH_take (i := 24) (oi := { dst := some 57, op := Op.pick (tmp 42) (Operand.const (Value.bool true)) (tmp 56), type := 4, pos := "aff.go:24", after := #[eD 9, eD 23], guard := none }) (v := ?vb24) rfl (by kernel_rfl) (by kernel_rfl) (by kernel_rfl) (fun _ _ _ => id) (Or.inl ⟨by rfl, ?hyb24⟩) (by assumption) ?restb24
     case hyb24 => intro w hSw; (try dsimp only at hSw); go_simp; all_goals (with_reducible rfl)
     try simp only [Act.put, zR]
     refine wpAnyH_take (i := 25) (oi := { dst := some 58, op := Op.move (tmp 57), type := 4, pos := "aff.go:24", after := #[eD 24, eC 12], guard := none }) (v := ?vb25) rfl (by kernel_rfl) (by kernel_rfl) (by kernel_rfl) (fun _ _ _ => id) (Or.inl ⟨by rfl, ?hyb25⟩) (by assumption) ?restb25
     case hyb25 => intro w hSw; (try dsimp only at hSw); go_simp; all_goals (with_reducible rfl)
     try simp only [Act.put, zR]
     refine wpAnyH_take (i := 26) (oi := { dst := some 59, op := Op.fieldAddr 50 (tmp 6) 1, type := 0, pos := "aff.go:24", after := #[eG 25], guard := some (25, false) }) (v := ?vb26) rfl (by kernel_rfl) (by kernel_rfl) (by kernel_rfl) (fun _ _ _ => id) (Or.inl ⟨by rfl, ?hyb26⟩) (by assumption) ?restb26
     case hyb26 => intro w hSw; (try dsimp only at hSw); go_simp; all_goals (with_reducible rfl)
     try simp only [Act.put, zR]
     refine wpAnyH_take (i := 27) (oi := { dst := some 60, op := Op.load 26 (tmp 59), type := 26, pos := "aff.go:24", after := #[eD 26, eG 25], guard := some (25, false) }) (v := ?vb27) rfl (by kernel_rfl) (by kernel_rfl) (by kernel_rfl) (fun _ _ _ => id) (Or.inl ⟨by rfl, ?hyb27⟩) (by assumption) ?restb27
     case hyb27 => intro w hSw; (try dsimp only at hSw); go_simp; all_goals (with_reducible rfl)
     try simp only [Act.put, zR]
     refine wpAnyH_ready (rs := [28]) (by kernel_rfl) (by simp) ?_
     refine AllReadyH.cons (o := { dst := some 61, op := Op.call { callee := Callee.value (Operand.func 46), args := #[tmp 60], argTypes := #[26] }, type := 4, pos := "aff.go:24", after := #[eD 27, eC 25, eG 25], guard := some (25, false) }) rfl (fun K hK => ?_) AllReadyH.nil
     go_simp
     go_at_call 46
     refine (rIs_v x.r X.2 false _ ((HXR.out.below HBB.out).below (bel1 WA)) ⟨fun h => (by cases h), fun h => absurd ((Nrm.iff HXR.out (HBB.out.trans ((bel1 WA).mono HBB.out.size))).2 h) hN⟩).mono ?_
     rintro ee w2 ⟨rfl, hb⟩
     have hb' := (bel1 WA).trans hb
     have hk := hb'.block wr.heap.size (by omega)
     obtain ⟨a0, a1, a2, a3, a4⟩ := (ka.below hb').facts
     rw [HVA.out] at a1
     replace x0 := (World.cell?_of_block hk).trans x0
     replace x1 := (World.cell?_of_block hk).trans x1
     replace x2 := (World.cell?_of_block hk).trans x2
     replace x3 := (World.cell?_of_block hk).trans x3
     have HB9 := Lib.hid (HBA.out.trans (hb'.mono HBA.out.size))
     have HB8 := Lib.hid (HBB.out.trans (hb'.mono HBB.out.size))
     clear hk hb hb'
     try go_wp2_with fail
     refine hK.out _ _ ?_ fun hHeld => ?_
     · (try dsimp only); go_keep
     clear hK K
     try simp only [Act.put, zR]
     refine wpAnyH_take (i := 29) (oi := { dst := some 62, op := Op.unOp UnOp.not 4 (tmp 61), type := 4, pos := "aff.go:24", after := #[eD 28, eG 25], guard := some (25, false) }) (v := ?vb29) rfl (by kernel_rfl) (by kernel_rfl) (by kernel_rfl) (fun _ _ _ => id) (Or.inl ⟨by rfl, ?hyb29⟩) (by assumption) ?restb29
     case hyb29 => intro w hSw; (try dsimp only at hSw); go_simp; all_goals (with_reducible rfl)
     try simp only [Act.put, zR]
     refine wpAnyH_take (i := 30) (oi := { dst := some 63, op := Op.pick (tmp 58) (Operand.const (Value.bool true)) (tmp 62), type := 4, pos := "aff.go:24", after := #[eD 25, eD 29], guard := none }) (v := ?vb30) rfl (by kernel_rfl) (by kernel_rfl) (by kernel_rfl) (fun _ _ _ => id) (Or.inl ⟨by rfl, ?hyb30⟩) (by assumption) ?restb30
     case hyb30 => intro w hSw; (try dsimp only at hSw); go_simp; all_goals (with_reducible rfl)
     try simp only [Act.put, zR]
     refine wpAnyH_take (i := 31) (oi := { dst := some 64, op := Op.move (tmp 63), type := 4, pos := "aff.go:24", after := #[eD 30, eC 28], guard := none }) (v := ?vb31) rfl (by kernel_rfl) (by kernel_rfl) (by kernel_rfl) (fun _ _ _ => id) (Or.inl ⟨by rfl, ?hyb31⟩) (by assumption) ?restb31
     case hyb31 => intro w hSw; (try dsimp only at hSw); go_simp; all_goals (with_reducible rfl)
     try simp only [Act.put, zR]
     refine wpAnyH_take (i := 32) (oi := { dst := some 65, op := Op.fieldAddr 50 (tmp 6) 1, type := 0, pos := "aff.go:24", after := #[eG 31], guard := some (31, false) }) (v := undef) rfl (by kernel_rfl) (by kernel_rfl) (by kernel_rfl) (fun _ _ _ => id) (Or.inr ⟨by rfl, rfl⟩) (by assumption) ?_
     try simp only [Act.put, zR]
     refine wpAnyH_take (i := 33) (oi := { dst := some 66, op := Op.fieldAddr 26 (tmp 65) 1, type := 0, pos := "aff.go:24", after := #[eD 32, eG 31], guard := some (31, false) }) (v := undef) rfl (by kernel_rfl) (by kernel_rfl) (by kernel_rfl) (fun _ _ _ => id) (Or.inr ⟨by rfl, rfl⟩) (by assumption) ?_
     try simp only [Act.put, zR]
     refine wpAnyH_take (i := 34) (oi := { dst := some 67, op := Op.load 24 (tmp 66), type := 24, pos := "aff.go:24", after := #[eD 33, eG 31], guard := some (31, false) }) (v := undef) rfl (by kernel_rfl) (by kernel_rfl) (by kernel_rfl) (fun _ _ _ => id) (Or.inr ⟨by rfl, rfl⟩) (by assumption) ?_
     try simp only [Act.put, zR]
     refine wpAnyH_take (i := 35) (oi := { dst := some 68, op := Op.call { callee := Callee.builtin Builtin.len, args := #[tmp 67], argTypes := #[24] }, type := 3, pos := "aff.go:24", after := #[eD 34, eG 31], guard := some (31, false) }) (v := undef) rfl (by kernel_rfl) (by kernel_rfl) (by kernel_rfl) (fun _ _ _ => id) (Or.inr ⟨by rfl, rfl⟩) (by assumption) ?_
     try simp only [Act.put, zR]
     refine wpAnyH_take (i := 36) (oi := { dst := some 69, op := Op.binOp BinOp.eql 3 (tmp 68) (Operand.const (Value.int IntKind.i64 0)) 3, type := 4, pos := "aff.go:24", after := #[eD 35, eG 31], guard := some (31, false) }) (v := undef) rfl (by kernel_rfl) (by kernel_rfl) (by kernel_rfl) (fun _ _ _ => id) (Or.inr ⟨by rfl, rfl⟩) (by assumption) ?_
     try simp only [Act.put, zR]
     refine wpAnyH_take (i := 37) (oi := { dst := some 70, op := Op.pick (tmp 64) (Operand.const (Value.bool true)) (tmp 69), type := 4, pos := "aff.go:24", after := #[eD 31, eD 36], guard := none }) (v := ?vb37) rfl (by kernel_rfl) (by kernel_rfl) (by kernel_rfl) (fun _ _ _ => id) (Or.inl ⟨by rfl, ?hyb37⟩) (by assumption) ?restb37
     case hyb37 => intro w hSw; (try dsimp only at hSw); go_simp; all_goals (with_reducible rfl)
     try simp only [Act.put, zR]
     refine wpAnyH_done (by kernel_rfl) ?_ _
     clear x0 x1 x2 x3 a0 a1 a2 a3 a4 hN
     have NO1 := Lib.hid (NO.out (fun h => HN.out h.2.2.2.1))
     go_wp2
     go_ret
     exact ⟨by rw [NO1.out]; rfl, HB8.out⟩
   |
    succ j =>
    obtain ⟨y, Y, hy, hY9, hyv9, hyr9⟩ := HW0.out.2.1.get j (by rw [HW0.out.1.len]; omega)
    clear hY9 hyv9 hyr9
    have y0 := ((HC.out j y hy).keep (HBB.out.block g hgw)).h0
    have HY := Lib.hid hy
    clear hy
    have hj0 : (0 : Int) ≤ (j : Int) := by omega
    have hj1 : (j : Int) < (va.n : Int) := by omega
    have hjw : IntKind.i64.wrap (j : Int) = (j : Int) := by rw [IntKind.wrap_i64]; omega
    by_cases c3 : x.v ≤ y.v
    ·
     have NO1 := Lib.hid (NO.out (fun h => by have := h.2.2.1 y (by omega) HY.out; omega))
     have c3d : decide (x.v ≤ y.v) = true := decide_eq_true c3
     have c3e : ¬ y.v < x.v := by omega
     have c3f : decide (0 < (j : Int) + 1) = true := decide_eq_true (by omega)
     have c3g : (0 : Int) < (j : Int) + 1 := by omega
     refine wp_region_held_drew (S := fun w' => w'.cell? ⟨w.heap.size, 1, none⟩ = some (.slice (some ⟨g, off, none⟩) va.n va.c) ∧ w'.cell? ⟨wr.heap.size, 0, none⟩ = some (.int .i64 x.v) ∧ w'.cell? ⟨wr.heap.size, 0 + 1, none⟩ = some (.bool x.r.s) ∧ w'.cell? ⟨wr.heap.size, 0 + 2, none⟩ = some (.slice x.r.A x.r.n x.r.c) ∧ w'.cell? ⟨wr.heap.size, 0 + 3, none⟩ = some (.slice x.r.B x.r.m x.r.d) ∧ w'.cell? ⟨g, off + j * 4, none⟩ = some (.int .i64 y.v)) (by kernel_rfl) ?_ (fun hHeld => ?_)
     ·
      (try dsimp only)
      go_keep
     refine wpAnyH_take (i := 0) (oi := { dst := some 33, op := Op.fieldAddr 50 (tmp 6) 0, type := 0, pos := "aff.go:24", after := #[], guard := none }) (v := ?vc0) rfl (by kernel_rfl) (by kernel_rfl) (by kernel_rfl) (fun _ _ _ => id) (Or.inl ⟨by rfl, ?hyc0⟩) (by assumption) ?restc0
     case hyc0 => intro w hSw; (try dsimp only at hSw); go_simp; all_goals (with_reducible rfl)
     try simp only [Act.put, zR]
     refine wpAnyH_take (i := 1) (oi := { dst := some 34, op := Op.load 3 (tmp 33), type := 3, pos := "aff.go:24", after := #[eD 0], guard := none }) (v := ?vc1) rfl (by kernel_rfl) (by kernel_rfl) (by kernel_rfl) (fun _ _ _ => id) (Or.inl ⟨by rfl, ?hyc1⟩) (by assumption) ?restc1
     case hyc1 => intro w hSw; (try dsimp only at hSw); go_simp; all_goals (with_reducible rfl)
     try simp only [Act.put, zR]
     refine wpAnyH_take (i := 2) (oi := { dst := some 35, op := Op.binOp BinOp.lss 3 (tmp 34) (Operand.const (Value.int IntKind.i64 0)) 3, type := 4, pos := "aff.go:24", after := #[eD 1], guard := none }) (v := ?vc2) rfl (by kernel_rfl) (by kernel_rfl) (by kernel_rfl) (fun _ _ _ => id) (Or.inl ⟨by rfl, ?hyc2⟩) (by assumption) ?restc2
     case hyc2 => intro w hSw; (try dsimp only at hSw); go_simp; all_goals (with_reducible rfl)
     try simp only [Act.put, zR]
     refine wpAnyH_take (i := 3) (oi := { dst := some 36, op := Op.move (tmp 35), type := 4, pos := "aff.go:24", after := #[eD 2], guard := none }) (v := ?vc3) rfl (by kernel_rfl) (by kernel_rfl) (by kernel_rfl) (fun _ _ _ => id) (Or.inl ⟨by rfl, ?hyc3⟩) (by assumption) ?restc3
     case hyc3 => intro w hSw; (try dsimp only at hSw); go_simp; all_goals (with_reducible rfl)
     try simp only [Act.put, zR]
     refine wpAnyH_take (i := 4) (oi := { dst := some 37, op := Op.fieldAddr 50 (tmp 6) 0, type := 0, pos := "aff.go:24", after := #[eG 3], guard := some (3, false) }) (v := ?vc4) rfl (by kernel_rfl) (by kernel_rfl) (by kernel_rfl) (fun _ _ _ => id) (Or.inl ⟨by rfl, ?hyc4⟩) (by assumption) ?restc4
     case hyc4 => intro w hSw; (try dsimp only at hSw); go_simp; all_goals (with_reducible rfl)
     try simp only [Act.put, zR]
     refine wpAnyH_take (i := 5) (oi := { dst := some 38, op := Op.load 3 (tmp 37), type := 3, pos := "aff.go:24", after := #[eD 4, eG 3], guard := some (3, false) }) (v := ?vc5) rfl (by kernel_rfl) (by kernel_rfl) (by kernel_rfl) (fun _ _ _ => id) (Or.inl ⟨by rfl, ?hyc5⟩) (by assumption) ?restc5
     case hyc5 => intro w hSw; (try dsimp only at hSw); go_simp; all_goals (with_reducible rfl)
     try simp only [Act.put, zR]
     refine wpAnyH_take (i := 6) (oi := { dst := some 39, op := Op.move (tmp 1), type := 3, pos := "aff.go:24", after := #[eG 3], guard := some (3, false) }) (v := ?vc6) rfl (by kernel_rfl) (by kernel_rfl) (by kernel_rfl) (fun _ _ _ => id) (Or.inl ⟨by rfl, ?hyc6⟩) (by assumption) ?restc6
     case hyc6 => intro w hSw; (try dsimp only at hSw); go_simp; all_goals (with_reducible rfl)
     try simp only [Act.put, zR]
     refine wpAnyH_take (i := 7) (oi := { dst := some 40, op := Op.binOp BinOp.geq 3 (tmp 38) (tmp 39) 3, type := 4, pos := "aff.go:24", after := #[eD 5, eD 6, eG 3], guard := some (3, false) }) (v := ?vc7) rfl (by kernel_rfl) (by kernel_rfl) (by kernel_rfl) (fun _ _ _ => id) (Or.inl ⟨by rfl, ?hyc7⟩) (by assumption) ?restc7
     case hyc7 => intro w hSw; (try dsimp only at hSw); go_simp; all_goals (with_reducible rfl)
     try simp only [Act.put, zR]
     refine wpAnyH_take (i := 8) (oi := { dst := some 41, op := Op.pick (tmp 36) (Operand.const (Value.bool true)) (tmp 40), type := 4, pos := "aff.go:24", after := #[eD 3, eD 7], guard := none }) (v := ?vc8) rfl (by kernel_rfl) (by kernel_rfl) (by kernel_rfl) (fun _ _ _ => id) (Or.inl ⟨by rfl, ?hyc8⟩) (by assumption) ?restc8
     case hyc8 => intro w hSw; (try dsimp only at hSw); go_simp; all_goals (with_reducible rfl)
     try simp only [Act.put, zR]
     refine wpAnyH_take (i := 9) (oi := { dst := some 42, op := Op.move (tmp 41), type := 4, pos := "aff.go:24", after := #[eD 8, eC 3], guard := none }) (v := ?vc9) rfl (by kernel_rfl) (by kernel_rfl) (by kernel_rfl) (fun _ _ _ => id) (Or.inl ⟨by rfl, ?hyc9⟩) (by assumption) ?restc9
     case hyc9 => intro w hSw; (try dsimp only at hSw); go_simp; all_goals (with_reducible rfl)
     try simp only [Act.put, zR]
     refine wpAnyH_take (i := 10) (oi := { dst := some 43, op := Op.move (tmp 5), type := 3, pos := "aff.go:24", after := #[eG 9], guard := some (9, false) }) (v := ?vc10) rfl (by kernel_rfl) (by kernel_rfl) (by kernel_rfl) (fun _ _ _ => id) (Or.inl ⟨by rfl, ?hyc10⟩) (by assumption) ?restc10
     case hyc10 => intro w hSw; (try dsimp only at hSw); go_simp; all_goals (with_reducible rfl)
     try simp only [Act.put, zR]
     refine wpAnyH_take (i := 11) (oi := { dst := some 44, op := Op.binOp BinOp.gtr 3 (tmp 43) (Operand.const (Value.int IntKind.i64 0)) 3, type := 4, pos := "aff.go:24", after := #[eD 10, eG 9], guard := some (9, false) }) (v := ?vc11) rfl (by kernel_rfl) (by kernel_rfl) (by kernel_rfl) (fun _ _ _ => id) (Or.inl ⟨by rfl, ?hyc11⟩) (by assumption) ?restc11
     case hyc11 => intro w hSw; (try dsimp only at hSw); go_simp; all_goals (with_reducible rfl)
     try simp only [Act.put, zR]
     refine wpAnyH_take (i := 12) (oi := { dst := some 45, op := Op.move (tmp 44), type := 4, pos := "aff.go:24", after := #[eD 11, eC 9, eG 9], guard := some (9, false) }) (v := ?vc12) rfl (by kernel_rfl) (by kernel_rfl) (by kernel_rfl) (fun _ _ _ => id) (Or.inl ⟨by rfl, ?hyc12⟩) (by assumption) ?restc12
     case hyc12 => intro w hSw; (try dsimp only at hSw); go_simp; all_goals (with_reducible rfl)
     try simp only [Act.put, zR]
     refine wpAnyH_take (i := 13) (oi := { dst := some 46, op := Op.fieldAddr 28 (tmp 2) 1, type := 0, pos := "aff.go:24", after := #[eG 12], guard := some (12, true) }) (v := ?vc13) rfl (by kernel_rfl) (by kernel_rfl) (by kernel_rfl) (fun _ _ _ => id) (Or.inl ⟨by rfl, ?hyc13⟩) (by assumption) ?restc13
     case hyc13 => intro w hSw; (try dsimp only at hSw); go_simp; all_goals (with_reducible rfl)
     try simp only [Act.put, zR]
     refine wpAnyH_take (i := 14) (oi := { dst := some 47, op := Op.load 23 (tmp 46), type := 23, pos := "aff.go:24", after := #[eD 13, eG 12], guard := some (12, true) }) (v := ?vc14) rfl (by kernel_rfl) (by kernel_rfl) (by kernel_rfl) (fun _ _ _ => id) (Or.inl ⟨by rfl, ?hyc14⟩) (by assumption) ?restc14
     case hyc14 => intro w hSw; (try dsimp only at hSw); go_simp; all_goals (with_reducible rfl)
     try simp only [Act.put, zR]
     refine wpAnyH_take (i := 15) (oi := { dst := some 48, op := Op.move (tmp 5), type := 3, pos := "aff.go:24", after := #[eG 12], guard := some (12, true) }) (v := ?vc15) rfl (by kernel_rfl) (by kernel_rfl) (by kernel_rfl) (fun _ _ _ => id) (Or.inl ⟨by rfl, ?hyc15⟩) (by assumption) ?restc15
     case hyc15 => intro w hSw; (try dsimp only at hSw); go_simp; all_goals (with_reducible rfl)
     try simp only [Act.put, zR]
     refine wpAnyH_take (i := 16) (oi := { dst := some 49, op := Op.binOp BinOp.sub 3 (tmp 48) (Operand.const (Value.int IntKind.i64 1)) 3, type := 3, pos := "aff.go:24", after := #[eD 15, eG 12], guard := some (12, true) }) (v := ?vc16) rfl (by kernel_rfl) (by kernel_rfl) (by kernel_rfl) (fun _ _ _ => id) (Or.inl ⟨by rfl, ?hyc16⟩) (by assumption) ?restc16
     case hyc16 => intro w hSw; (try dsimp only at hSw); go_simp; all_goals (with_reducible rfl)
     try simp only [Act.put, zR]
     refine wpAnyH_take (i := 17) (oi := { dst := some 50, op := Op.indexAddr 23 (tmp 47) (tmp 49), type := 0, pos := "aff.go:24", after := #[eD 14, eD 16, eG 12], guard := some (12, true) }) (v := ?vc17) rfl (by kernel_rfl) (by kernel_rfl) (by kernel_rfl) (fun _ _ _ => id) (Or.inl ⟨by rfl, ?hyc17⟩) (by assumption) ?restc17
     case hyc17 => intro w hSw; (try dsimp only at hSw); go_simp; all_goals (with_reducible rfl)
     try simp only [Act.put, zR]
     refine wpAnyH_take (i := 18) (oi := { dst := some 51, op := Op.fieldAddr 50 (tmp 50) 0, type := 0, pos := "aff.go:24", after := #[eD 17, eG 12], guard := some (12, true) }) (v := ?vc18) rfl (by kernel_rfl) (by kernel_rfl) (by kernel_rfl) (fun _ _ _ => id) (Or.inl ⟨by rfl, ?hyc18⟩) (by assumption) ?restc18
     case hyc18 => intro w hSw; (try dsimp only at hSw); go_simp; all_goals (with_reducible rfl)
     try simp only [Act.put, zR]
     refine wpAnyH_take (i := 19) (oi := { dst := some 52, op := Op.load 3 (tmp 51), type := 3, pos := "aff.go:24", after := #[eD 18, eG 12], guard := some (12, true) }) (v := ?vc19) rfl (by kernel_rfl) (by kernel_rfl) (by kernel_rfl) (fun _ _ _ => id) (Or.inl ⟨by rfl, ?hyc19⟩) (by assumption) ?restc19
     case hyc19 => intro w hSw; (try dsimp only at hSw); go_simp; all_goals (with_reducible rfl)
     try simp only [Act.put, zR]
     refine wpAnyH_take (i := 20) (oi := { dst := some 53, op := Op.fieldAddr 50 (tmp 6) 0, type := 0, pos := "aff.go:24", after := #[eG 12], guard := some (12, true) }) (v := ?vc20) rfl (by kernel_rfl) (by kernel_rfl) (by kernel_rfl) (fun _ _ _ => id) (Or.inl ⟨by rfl, ?hyc20⟩) (by assumption) ?restc20
     case hyc20 => intro w hSw; (try dsimp only at hSw); go_simp; all_goals (with_reducible rfl)
     try simp only [Act.put, zR]
     refine wpAnyH_take (i := 21) (oi := { dst := some 54, op := Op.load 3 (tmp 53), type := 3, pos := "aff.go:24", after := #[eD 20, eG 12], guard := some (12, true) }) (v := ?vc21) rfl (by kernel_rfl) (by kernel_rfl) (by kernel_rfl) (fun _ _ _ => id) (Or.inl ⟨by rfl, ?hyc21⟩) (by assumption) ?restc21
     case hyc21 => intro w hSw; (try dsimp only at hSw); go_simp; all_goals (with_reducible rfl)
     try simp only [Act.put, zR]
     refine wpAnyH_take (i := 22) (oi := { dst := some 55, op := Op.binOp BinOp.geq 3 (tmp 52) (tmp 54) 3, type := 4, pos := "aff.go:24", after := #[eD 19, eD 21, eG 12], guard := some (12, true) }) (v := ?vc22) rfl (by kernel_rfl) (by kernel_rfl) (by kernel_rfl) (fun _ _ _ => id) (Or.inl ⟨by rfl, ?hyc22⟩) (by assumption) ?restc22
     case hyc22 => intro w hSw; (try dsimp only at hSw); go_simp; all_goals (with_reducible rfl)
     try simp only [Act.put, zR]
     refine wpAnyH_take (i := 23) (oi := { dst := some 56, op := Op.pick (tmp 45) (tmp 55) (Operand.const (Value.bool false)), type := 4, pos := "aff.go:24", after := #[eD 12, eD 22, eG 9], guard := some (9, false) }) (v := ?vc23) rfl (by kernel_rfl) (by kernel_rfl) (by kernel_rfl) (fun _ _ _ => id) (Or.inl ⟨by rfl, ?hyc23⟩) (by assumption) ?restc23
     case hyc23 => intro w hSw; (try dsimp only at hSw); go_simp; all_goals (with_reducible rfl)
     try simp only [Act.put, zR]
     refine wpAnyH_take (i := 24) (oi := { dst := some 57, op := Op.pick (tmp 42) (Operand.const (Value.bool true)) (tmp 56), type := 4, pos := "aff.go:24", after := #[eD 9, eD 23], guard := none }) (v := ?vc24) rfl (by kernel_rfl) (by kernel_rfl) (by kernel_rfl) (fun _ _ _ => id) (Or.inl ⟨by rfl, ?hyc24⟩) (by assumption) ?restc24
     case hyc24 => intro w hSw; (try dsimp only at hSw); go_simp; all_goals (with_reducible rfl)
     try simp only [Act.put, zR]
     refine wpAnyH_take (i := 25) (oi := { dst := some 58, op := Op.move (tmp 57), type := 4, pos := "aff.go:24", after := #[eD 24, eC 12], guard := none }) (v := ?vc25) rfl (by kernel_rfl) (by kernel_rfl) (by kernel_rfl) (fun _ _ _ => id) (Or.inl ⟨by rfl, ?hyc25⟩) (by assumption) ?restc25
     case hyc25 => intro w hSw; (try dsimp only at hSw); go_simp; all_goals (with_reducible rfl)
     try simp only [Act.put, zR]
     refine wpAnyH_take (i := 26) (oi := { dst := some 59, op := Op.fieldAddr 50 (tmp 6) 1, type := 0, pos := "aff.go:24", after := #[eG 25], guard := some (25, false) }) (v := undef) rfl (by kernel_rfl) (by kernel_rfl) (by kernel_rfl) (fun _ _ _ => id) (Or.inr ⟨by rfl, rfl⟩) (by assumption) ?_
     try simp only [Act.put, zR]
     refine wpAnyH_take (i := 27) (oi := { dst := some 60, op := Op.load 26 (tmp 59), type := 26, pos := "aff.go:24", after := #[eD 26, eG 25], guard := some (25, false) }) (v := undef) rfl (by kernel_rfl) (by kernel_rfl) (by kernel_rfl) (fun _ _ _ => id) (Or.inr ⟨by rfl, rfl⟩) (by assumption) ?_
     try simp only [Act.put, zR]
     refine wpAnyH_take (i := 28) (oi := { dst := some 61, op := Op.call { callee := Callee.value (Operand.func 46), args := #[tmp 60], argTypes := #[26] }, type := 4, pos := "aff.go:24", after := #[eD 27, eC 25, eG 25], guard := some (25, false) }) (v := undef) rfl (by kernel_rfl) (by kernel_rfl) (by kernel_rfl) (fun _ _ _ => id) (Or.inr ⟨by rfl, rfl⟩) (by assumption) ?_
     try simp only [Act.put, zR]
     refine wpAnyH_take (i := 29) (oi := { dst := some 62, op := Op.unOp UnOp.not 4 (tmp 61), type := 4, pos := "aff.go:24", after := #[eD 28, eG 25], guard := some (25, false) }) (v := undef) rfl (by kernel_rfl) (by kernel_rfl) (by kernel_rfl) (fun _ _ _ => id) (Or.inr ⟨by rfl, rfl⟩) (by assumption) ?_
     try simp only [Act.put, zR]
     refine wpAnyH_take (i := 30) (oi := { dst := some 63, op := Op.pick (tmp 58) (Operand.const (Value.bool true)) (tmp 62), type := 4, pos := "aff.go:24", after := #[eD 25, eD 29], guard := none }) (v := ?vc30) rfl (by kernel_rfl) (by kernel_rfl) (by kernel_rfl) (fun _ _ _ => id) (Or.inl ⟨by rfl, ?hyc30⟩) (by assumption) ?restc30
     case hyc30 => intro w hSw; (try dsimp only at hSw); go_simp; all_goals (with_reducible rfl)
     try simp only [Act.put, zR]
     refine wpAnyH_take (i := 31) (oi := { dst := some 64, op := Op.move (tmp 63), type := 4, pos := "aff.go:24", after := #[eD 30, eC 28], guard := none }) (v := ?vc31) rfl (by kernel_rfl) (by kernel_rfl) (by kernel_rfl) (fun _ _ _ => id) (Or.inl ⟨by rfl, ?hyc31⟩) (by assumption) ?restc31
     case hyc31 => intro w hSw; (try dsimp only at hSw); go_simp; all_goals (with_reducible rfl)
     try simp only [Act.put, zR]
     refine wpAnyH_take (i := 32) (oi := { dst := some 65, op := Op.fieldAddr 50 (tmp 6) 1, type := 0, pos := "aff.go:24", after := #[eG 31], guard := some (31, false) }) (v := undef) rfl (by kernel_rfl) (by kernel_rfl) (by kernel_rfl) (fun _ _ _ => id) (Or.inr ⟨by rfl, rfl⟩) (by assumption) ?_
     try simp only [Act.put, zR]
     refine wpAnyH_take (i := 33) (oi := { dst := some 66, op := Op.fieldAddr 26 (tmp 65) 1, type := 0, pos := "aff.go:24", after := #[eD 32, eG 31], guard := some (31, false) }) (v := undef) rfl (by kernel_rfl) (by kernel_rfl) (by kernel_rfl) (fun _ _ _ => id) (Or.inr ⟨by rfl, rfl⟩) (by assumption) ?_
     try simp only [Act.put, zR]
     refine wpAnyH_take (i := 34) (oi := { dst := some 67, op := Op.load 24 (tmp 66), type := 24, pos := "aff.go:24", after := #[eD 33, eG 31], guard := some (31, false) }) (v := undef) rfl (by kernel_rfl) (by kernel_rfl) (by kernel_rfl) (fun _ _ _ => id) (Or.inr ⟨by rfl, rfl⟩) (by assumption) ?_
     try simp only [Act.put, zR]
     refine wpAnyH_take (i := 35) (oi := { dst := some 68, op := Op.call { callee := Callee.builtin Builtin.len, args := #[tmp 67], argTypes := #[24] }, type := 3, pos := "aff.go:24", after := #[eD 34, eG 31], guard := some (31, false) }) (v := undef) rfl (by kernel_rfl) (by kernel_rfl) (by kernel_rfl) (fun _ _ _ => id) (Or.inr ⟨by rfl, rfl⟩) (by assumption) ?_
     try simp only [Act.put, zR]
     refine wpAnyH_take (i := 36) (oi := { dst := some 69, op := Op.binOp BinOp.eql 3 (tmp 68) (Operand.const (Value.int IntKind.i64 0)) 3, type := 4, pos := "aff.go:24", after := #[eD 35, eG 31], guard := some (31, false) }) (v := undef) rfl (by kernel_rfl) (by kernel_rfl) (by kernel_rfl) (fun _ _ _ => id) (Or.inr ⟨by rfl, rfl⟩) (by assumption) ?_
     try simp only [Act.put, zR]
     refine wpAnyH_take (i := 37) (oi := { dst := some 70, op := Op.pick (tmp 64) (Operand.const (Value.bool true)) (tmp 69), type := 4, pos := "aff.go:24", after := #[eD 31, eD 36], guard := none }) (v := ?vc37) rfl (by kernel_rfl) (by kernel_rfl) (by kernel_rfl) (fun _ _ _ => id) (Or.inl ⟨by rfl, ?hyc37⟩) (by assumption) ?restc37
     case hyc37 => intro w hSw; (try dsimp only at hSw); go_simp; all_goals (with_reducible rfl)
     try simp only [Act.put, zR]
     refine wpAnyH_done (by kernel_rfl) ?_ _
     clear x0 x1 x2 x3 a0 a1 a2 a3 a4 y0
     go_wp2
     go_ret
     exact ⟨by rw [NO1.out]; rfl, HBB.out.trans ((bel1 WA).mono HBB.out.size)⟩
    by_cases hN : Nrm w x.r
    ·
     have HN := Lib.hid hN
     refine wp_region_held_drew (S := fun w' => w'.cell? ⟨w.heap.size, 1, none⟩ = some (.slice (some ⟨g, off, none⟩) va.n va.c) ∧ w'.cell? ⟨wr.heap.size, 0, none⟩ = some (.int .i64 x.v) ∧ w'.cell? ⟨wr.heap.size, 0 + 1, none⟩ = some (.bool x.r.s) ∧ w'.cell? ⟨wr.heap.size, 0 + 2, none⟩ = some (.slice x.r.A x.r.n x.r.c) ∧ w'.cell? ⟨wr.heap.size, 0 + 3, none⟩ = some (.slice x.r.B x.r.m x.r.d) ∧ w'.cell? ⟨g, off + j * 4, none⟩ = some (.int .i64 y.v)) (by kernel_rfl) ?_ (fun hHeld => ?_)
     ·
      (try dsimp only)
      go_keep
     refine wpAnyH_take (i := 0) (oi := { dst := some 33, op := Op.fieldAddr 50 (tmp 6) 0, type := 0, pos := "aff.go:24", after := #[], guard := none }) (v := ?vd0) rfl (by kernel_rfl) (by kernel_rfl) (by kernel_rfl) (fun _ _ _ => id) (Or.inl ⟨by rfl, ?hyd0⟩) (by assumption) ?restd0
     case hyd0 => intro w hSw; (try dsimp only at hSw); go_simp; all_goals (with_reducible rfl)
     try simp only [Act.put, zR]
     refine wpAnyH_take (i := 1) (oi := { dst := some 34, op := Op.load 3 (tmp 33), type := 3, pos := "aff.go:24", after := #[eD 0], guard := none }) (v := ?vd1) rfl (by kernel_rfl) (by kernel_rfl) (by kernel_rfl) (fun _ _ _ => id) (Or.inl ⟨by rfl, ?hyd1⟩) (by assumption) ?restd1
     case hyd1 => intro w hSw; (try dsimp only at hSw); go_simp; all_goals (with_reducible rfl)
     try simp only [Act.put, zR]
     refine wpAnyH_take (i := 2) (oi := { dst := some 35, op := Op.binOp BinOp.lss 3 (tmp 34) (Operand.const (Value.int IntKind.i64 0)) 3, type := 4, pos := "aff.go:24", after := #[eD 1], guard := none }) (v := ?vd2) rfl (by kernel_rfl) (by kernel_rfl) (by kernel_rfl) (fun _ _ _ => id) (Or.inl ⟨by rfl, ?hyd2⟩) (by assumption) ?restd2
     case hyd2 => intro w hSw; (try dsimp only at hSw); go_simp; all_goals (with_reducible rfl)
     try simp only [Act.put, zR]
     refine wpAnyH_take (i := 3) (oi := { dst := some 36, op := Op.move (tmp 35), type := 4, pos := "aff.go:24", after := #[eD 2], guard := none }) (v := ?vd3) rfl (by kernel_rfl) (by kernel_rfl) (by kernel_rfl) (fun _ _ _ => id) (Or.inl ⟨by rfl, ?hyd3⟩) (by assumption) ?restd3
     case hyd3 => intro w hSw; (try dsimp only at hSw); go_simp; all_goals (with_reducible rfl)
     try simp only [Act.put, zR]
     refine wpAnyH_take (i := 4) (oi := { dst := some 37, op := Op.fieldAddr 50 (tmp 6) 0, type := 0, pos := "aff.go:24", after := #[eG 3], guard := some (3, false) }) (v := ?vd4) rfl (by kernel_rfl) (by kernel_rfl) (by kernel_rfl) (fun _ _ _ => id) (Or.inl ⟨by rfl, ?hyd4⟩) (by assumption) ?restd4
     case hyd4 => intro w hSw; (try dsimp only at hSw); go_simp; all_goals (with_reducible rfl)
     try simp only [Act.put, zR]
     refine wpAnyH_take (i := 5) (oi := { dst := some 38, op := Op.load 3 (tmp 37), type := 3, pos := "aff.go:24", after := #[eD 4, eG 3], guard := some (3, false) }) (v := ?vd5) rfl (by kernel_rfl) (by kernel_rfl) (by kernel_rfl) (fun _ _ _ => id) (Or.inl ⟨by rfl, ?hyd5⟩) (by assumption) ?restd5
     case hyd5 => intro w hSw; (try dsimp only at hSw); go_simp; all_goals (with_reducible rfl)
     try simp only [Act.put, zR]
     refine wpAnyH_take (i := 6) (oi := { dst := some 39, op := Op.move (tmp 1), type := 3, pos := "aff.go:24", after := #[eG 3], guard := some (3, false) }) (v := ?vd6) rfl (by kernel_rfl) (by kernel_rfl) (by kernel_rfl) (fun _ _ _ => id) (Or.inl ⟨by rfl, ?hyd6⟩) (by assumption) ?restd6
     case hyd6 => intro w hSw; (try dsimp only at hSw); go_simp; all_goals (with_reducible rfl)
     try simp only [Act.put, zR]
     refine wpAnyH_take (i := 7) (oi := { dst := some 40, op := Op.binOp BinOp.geq 3 (tmp 38) (tmp 39) 3, type := 4, pos := "aff.go:24", after := #[eD 5, eD 6, eG 3], guard := some (3, false) }) (v := ?vd7) rfl (by kernel_rfl) (by kernel_rfl) (by kernel_rfl) (fun _ _ _ => id) (Or.inl ⟨by rfl, ?hyd7⟩) (by assumption) ?restd7
     case hyd7 => intro w hSw; (try dsimp only at hSw); go_simp; all_goals (with_reducible rfl)
     try simp only [Act.put, zR]
     refine wpAnyH_take (i := 8) (oi := { dst := some 41, op := Op.pick (tmp 36) (Operand.const (Value.bool true)) (tmp 40), type := 4, pos := "aff.go:24", after := #[eD 3, eD 7], guard := none }) (v := ?vd8) rfl (by kernel_rfl) (by kernel_rfl) (by kernel_rfl) (fun _ _ _ => id) (Or.inl ⟨by rfl, ?hyd8⟩) (by assumption) ?restd8
     case hyd8 => intro w hSw; (try dsimp only at hSw); go_simp; all_goals (with_reducible rfl)
     try simp only [Act.put, zR]
     refine wpAnyH_take (i := 9) (oi := { dst := some 42, op := Op.move (tmp 41), type := 4, pos := "aff.go:24", after := #[eD 8, eC 3], guard := none }) (v := ?vd9) rfl (by kernel_rfl) (by kernel_rfl) (by kernel_rfl) (fun _ _ _ => id) (Or.inl ⟨by rfl, ?hyd9⟩) (by assumption) ?restd9
     case hyd9 => intro w hSw; (try dsimp only at hSw); go_simp; all_goals (with_reducible rfl)
     try simp only [Act.put, zR]
     refine wpAnyH_take (i := 10) (oi := { dst := some 43, op := Op.move (tmp 5), type := 3, pos := "aff.go:24", after := #[eG 9], guard := some (9, false) }) (v := ?vd10) rfl (by kernel_rfl) (by kernel_rfl) (by kernel_rfl) (fun _ _ _ => id) (Or.inl ⟨by rfl, ?hyd10⟩) (by assumption) ?restd10
     case hyd10 => intro w hSw; (try dsimp only at hSw); go_simp; all_goals (with_reducible rfl)
     try simp only [Act.put, zR]
     refine wpAnyH_take (i := 11) (oi := { dst := some 44, op := Op.binOp BinOp.gtr 3 (tmp 43) (Operand.const (Value.int IntKind.i64 0)) 3, type := 4, pos := "aff.go:24", after := #[eD 10, eG 9], guard := some (9, false) }) (v := ?vd11) rfl (by kernel_rfl) (by kernel_rfl) (by kernel_rfl) (fun _ _ _ => id) (Or.inl ⟨by rfl, ?hyd11⟩) (by assumption) ?restd11
     case hyd11 => intro w hSw; (try dsimp only at hSw); go_simp; all_goals (with_reducible rfl)
     try simp only [Act.put, zR]
     refine wpAnyH_take (i := 12) (oi := { dst := some 45, op := Op.move (tmp 44), type := 4, pos := "aff.go:24", after := #[eD 11, eC 9, eG 9], guard := some (9, false) }) (v := ?vd12) rfl (by kernel_rfl) (by kernel_rfl) (by kernel_rfl) (fun _ _ _ => id) (Or.inl ⟨by rfl, ?hyd12⟩) (by assumption) ?restd12
     case hyd12 => intro w hSw; (try dsimp only at hSw); go_simp; all_goals (with_reducible rfl)
     try simp only [Act.put, zR]
     refine wpAnyH_take (i := 13) (oi := { dst := some 46, op := Op.fieldAddr 28 (tmp 2) 1, type := 0, pos := "aff.go:24", after := #[eG 12], guard := some (12, true) }) (v := ?vd13) rfl (by kernel_rfl) (by kernel_rfl) (by kernel_rfl) (fun _ _ _ => id) (Or.inl ⟨by rfl, ?hyd13⟩) (by assumption) ?restd13
     case hyd13 => intro w hSw; (try dsimp only at hSw); go_simp; all_goals (with_reducible rfl)
     try simp only [Act.put, zR]
     refine wpAnyH_take (i := 14) (oi := { dst := some 47, op := Op.load 23 (tmp 46), type := 23, pos := "aff.go:24", after := #[eD 13, eG 12], guard := some (12, true) }) (v := ?vd14) rfl (by kernel_rfl) (by kernel_rfl) (by kernel_rfl) (fun _ _ _ => id) (Or.inl ⟨by rfl, ?hyd14⟩) (by assumption) ?restd14
     case hyd14 => intro w hSw; (try dsimp only at hSw); go_simp; all_goals (with_reducible rfl)
     try simp only [Act.put, zR]
     refine wpAnyH_take (i := 15) (oi := { dst := some 48, op := Op.move (tmp 5), type := 3, pos := "aff.go:24", after := #[eG 12], guard := some (12, true) }) (v := ?vd15) rfl (by kernel_rfl) (by kernel_rfl) (by kernel_rfl) (fun _ _ _ => id) (Or.inl ⟨by rfl, ?hyd15⟩) (by assumption) ?restd15
     case hyd15 => intro w hSw; (try dsimp only at hSw); go_simp; all_goals (with_reducible rfl)
     try simp only [Act.put, zR]
     refine wpAnyH_take (i := 16) (oi := { dst := some 49, op := Op.binOp BinOp.sub 3 (tmp 48) (Operand.const (Value.int IntKind.i64 1)) 3, type := 3, pos := "aff.go:24", after := #[eD 15, eG 12], guard := some (12, true) }) (v := ?vd16) rfl (by kernel_rfl) (by kernel_rfl) (by kernel_rfl) (fun _ _ _ => id) (Or.inl ⟨by rfl, ?hyd16⟩) (by assumption) ?restd16
     case hyd16 => intro w hSw; (try dsimp only at hSw); go_simp; all_goals (with_reducible rfl)
     try simp only [Act.put, zR]
     refine wpAnyH_take (i := 17) (oi := { dst := some 50, op := Op.indexAddr 23 (tmp 47) (tmp 49), type := 0, pos := "aff.go:24", after := #[eD 14, eD 16, eG 12], guard := some (12, true) }) (v := ?vd17) rfl (by kernel_rfl) (by kernel_rfl) (by kernel_rfl) (fun _ _ _ => id) (Or.inl ⟨by rfl, ?hyd17⟩) (by assumption) ?restd17
     case hyd17 => intro w hSw; (try dsimp only at hSw); go_simp; all_goals (with_reducible rfl)
     try simp only [Act.put, zR]
     refine wpAnyH_take (i := 18) (oi := { dst := some 51, op := Op.fieldAddr 50 (tmp 50) 0, type := 0, pos := "aff.go:24", after := #[eD 17, eG 12], guard := some (12, true) }) (v := ?vd18) rfl (by kernel_rfl) (by kernel_rfl) (by kernel_rfl) (fun _ _ _ => id) (Or.inl ⟨by rfl, ?hyd18⟩) (by assumption) ?restd18
     case hyd18 => intro w hSw; (try dsimp only at hSw); go_simp; all_goals (with_reducible rfl)
     try simp only [Act.put, zR]
     refine wpAnyH_take (i := 19) (oi := { dst := some 52, op := Op.load 3 (tmp 51), type := 3, pos := "aff.go:24", after := #[eD 18, eG 12], guard := some (12, true) }) (v := ?vd19) rfl (by kernel_rfl) (by kernel_rfl) (by kernel_rfl) (fun _ _ _ => id) (Or.inl ⟨by rfl, ?hyd19⟩) (by assumption) ?restd19
     case hyd19 => intro w hSw; (try dsimp only at hSw); go_simp; all_goals (with_reducible rfl)
     try simp only [Act.put, zR]
     refine wpAnyH_take (i := 20) (oi := { dst := some 53, op := Op.fieldAddr 50 (tmp 6) 0, type := 0, pos := "aff.go:24", after := #[eG 12], guard := some (12, true) }) (v := ?vd20) rfl (by kernel_rfl) (by kernel_rfl) (by kernel_rfl) (fun _ _ _ => id) (Or.inl ⟨by rfl, ?hyd20⟩) (by assumption) ?restd20
     case hyd20 => intro w hSw; (try dsimp only at hSw); go_simp; all_goals (with_reducible rfl)
     try simp only [Act.put, zR]
     refine wpAnyH_take (i := 21) (oi := { dst := some 54, op := Op.load 3 (tmp 53), type := 3, pos := "aff.go:24", after := #[eD 20, eG 12], guard := some (12, true) }) (v := ?vd21) rfl (by kernel_rfl) (by kernel_rfl) (by kernel_rfl) (fun _ _ _ => id) (Or.inl ⟨by rfl, ?hyd21⟩) (by assumption) ?restd21
     case hyd21 => intro w hSw; (try dsimp only at hSw); go_simp; all_goals (with_reducible rfl)
     try simp only [Act.put, zR]
     refine wpAnyH_take (i := 22) (oi := { dst := some 55, op := Op.binOp BinOp.geq 3 (tmp 52) (tmp 54) 3, type := 4, pos := "aff.go:24", after := #[eD 19, eD 21, eG 12], guard := some (12, true) }) (v := ?vd22) rfl (by kernel_rfl) (by kernel_rfl) (by kernel_rfl) (fun _ _ _ => id) (Or.inl ⟨by rfl, ?hyd22⟩) (by assumption) ?restd22
     case hyd22 => intro w hSw; (try dsimp only at hSw); go_simp; all_goals (with_reducible rfl)
     try simp only [Act.put, zR]
     refine wpAnyH_take (i := 23) (oi := { dst := some 56, op := Op.pick (tmp 45) (tmp 55) (Operand.const (Value.bool false)), type := 4, pos := "aff.go:24", after := #[eD 12, eD 22, eG 9], guard := some (9, false) }) (v := ?vd23) rfl (by kernel_rfl) (by kernel_rfl) (by kernel_rfl) (fun _ _ _ => id) (Or.inl ⟨by rfl, ?hyd23⟩) (by assumption) ?restd23
     case hyd23 => intro w hSw; (try dsimp only at hSw); go_simp; all_goals (with_reducible rfl)
     try simp only [Act.put, zR]
     refine wpAnyH_take (i := 24) (oi := { dst := some 57, op := Op.pick (tmp 42) (Operand.const (Value.bool true)) (tmp 56), type := 4, pos := "aff.go:24", after := #[eD 9, eD 23], guard := none }) (v := ?vd24) rfl (by kernel_rfl) (by kernel_rfl) (by kernel_rfl) (fun _ _ _ => id) (Or.inl ⟨by rfl, ?hyd24⟩) (by assumption) ?restd24
     case hyd24 => intro w hSw; (try dsimp only at hSw); go_simp; all_goals (with_reducible rfl)
     try simp only [Act.put, zR]
     refine wpAnyH_take (i := 25) (oi := { dst := some 58, op := Op.move (tmp 57), type := 4, pos := "aff.go:24", after := #[eD 24, eC 12], guard := none }) (v := ?vd25) rfl (by kernel_rfl) (by kernel_rfl) (by kernel_rfl) (fun _ _ _ => id) (Or.inl ⟨by rfl, ?hyd25⟩) (by assumption) ?restd25
     case hyd25 => intro w hSw; (try dsimp only at hSw); go_simp; all_goals (with_reducible rfl)
     try simp only [Act.put, zR]
     refine wpAnyH_take (i := 26) (oi := { dst := some 59, op := Op.fieldAddr 50 (tmp 6) 1, type := 0, pos := "aff.go:24", after := #[eG 25], guard := some (25, false) }) (v := ?vd26) rfl (by kernel_rfl) (by kernel_rfl) (by kernel_rfl) (fun _ _ _ => id) (Or.inl ⟨by rfl, ?hyd26⟩) (by assumption) ?restd26
     case hyd26 => intro w hSw; (try dsimp only at hSw); go_simp; all_goals (with_reducible rfl)
     try simp only [Act.put, zR]
     refine wpAnyH_take (i := 27) (oi := { dst := some 60, op := Op.load 26 (tmp 59), type := 26, pos := "aff.go:24", after := #[eD 26, eG 25], guard := some (25, false) }) (v := ?vd27) rfl (by kernel_rfl) (by kernel_rfl) (by kernel_rfl) (fun _ _ _ => id) (Or.inl ⟨by rfl, ?hyd27⟩) (by assumption) ?restd27
     case hyd27 => intro w hSw; (try dsimp only at hSw); go_simp; all_goals (with_reducible rfl)
     try simp only [Act.put, zR]
     refine wpAnyH_ready (rs := [28]) (by kernel_rfl) (by simp) ?_
     refine AllReadyH.cons (o := { dst := some 61, op := Op.call { callee := Callee.value (Operand.func 46), args := #[tmp 60], argTypes := #[26] }, type := 4, pos := "aff.go:24", after := #[eD 27, eC 25, eG 25], guard := some (25, false) }) rfl (fun K hK => ?_) AllReadyH.nil
     go_simp
     go_at_call 46
     refine (rIs_v x.r X.2 true _ ((HXR.out.below HBB.out).below (bel1 WA)) ⟨fun _ => (Nrm.iff HXR.out (HBB.out.trans ((bel1 WA).mono HBB.out.size))).1 hN, fun _ => rfl⟩).mono ?_
     rintro ee w2 ⟨rfl, hb⟩
     have hb' := (bel1 WA).trans hb
     have hk := hb'.block wr.heap.size (by omega)
     obtain ⟨a0, a1, a2, a3, a4⟩ := (ka.below hb').facts
     rw [HVA.out] at a1
     replace x0 := (World.cell?_of_block hk).trans x0
     replace x1 := (World.cell?_of_block hk).trans x1
     replace x2 := (World.cell?_of_block hk).trans x2
     replace x3 := (World.cell?_of_block hk).trans x3
     have hky := hb'.block g (Nat.lt_of_lt_of_le hgw HBB.out.size)
     replace y0 := (World.cell?_of_block hky).trans y0
     clear hky
     have HB9 := Lib.hid (HBA.out.trans (hb'.mono HBA.out.size))
     have HB8 := Lib.hid (HBB.out.trans (hb'.mono HBB.out.size))
     clear hk hb hb'
     try go_wp2_with fail
     refine hK.out _ _ ?_ fun hHeld => ?_
     · (try dsimp only); go_keep
     clear hK K
     try simp only [Act.put, zR]
     refine wpAnyH_take (i := 29) (oi := { dst := some 62, op := Op.unOp UnOp.not 4 (tmp 61), type := 4, pos := "aff.go:24", after := #[eD 28, eG 25], guard := some (25, false) }) (v := ?vd29) rfl (by kernel_rfl) (by kernel_rfl) (by kernel_rfl) (fun _ _ _ => id) (Or.inl ⟨by rfl, ?hyd29⟩) (by assumption) ?restd29
     case hyd29 => intro w hSw; (try dsimp only at hSw); go_simp; all_goals (with_reducible rfl)
     try simp only [Act.put, zR]
     refine wpAnyH_take (i := 30) (oi := { dst := some 63, op := Op.pick (tmp 58) (Operand.const (Value.bool true)) (tmp 62), type := 4, pos := "aff.go:24", after := #[eD 25, eD 29], guard := none }) (v := ?vd30) rfl (by kernel_rfl) (by kernel_rfl) (by kernel_rfl) (fun _ _ _ => id) (Or.inl ⟨by rfl, ?hyd30⟩) (by assumption) ?restd30
     case hyd30 => intro w hSw; (try dsimp only at hSw); go_simp; all_goals (with_reducible rfl)
     try simp only [Act.put, zR]
     refine wpAnyH_take (i := 31) (oi := { dst := some 64, op := Op.move (tmp 63), type := 4, pos := "aff.go:24", after := #[eD 30, eC 28], guard := none }) (v := ?vd31) rfl (by kernel_rfl) (by kernel_rfl) (by kernel_rfl) (fun _ _ _ => id) (Or.inl ⟨by rfl, ?hyd31⟩) (by assumption) ?restd31
     case hyd31 => intro w hSw; (try dsimp only at hSw); go_simp; all_goals (with_reducible rfl)
     try simp only [Act.put, zR]
     refine wpAnyH_take (i := 32) (oi := { dst := some 65, op := Op.fieldAddr 50 (tmp 6) 1, type := 0, pos := "aff.go:24", after := #[eG 31], guard := some (31, false) }) (v := ?vd32) rfl (by kernel_rfl) (by kernel_rfl) (by kernel_rfl) (fun _ _ _ => id) (Or.inl ⟨by rfl, ?hyd32⟩) (by assumption) ?restd32
     case hyd32 => intro w hSw; (try dsimp only at hSw); go_simp; all_goals (with_reducible rfl)
     try simp only [Act.put, zR]
     refine wpAnyH_take (i := 33) (oi := { dst := some 66, op := Op.fieldAddr 26 (tmp 65) 1, type := 0, pos := "aff.go:24", after := #[eD 32, eG 31], guard := some (31, false) }) (v := ?vd33) rfl (by kernel_rfl) (by kernel_rfl) (by kernel_rfl) (fun _ _ _ => id) (Or.inl ⟨by rfl, ?hyd33⟩) (by assumption) ?restd33
     case hyd33 => intro w hSw; (try dsimp only at hSw); go_simp; all_goals (with_reducible rfl)
     try simp only [Act.put, zR]
     refine wpAnyH_take (i := 34) (oi := { dst := some 67, op := Op.load 24 (tmp 66), type := 24, pos := "aff.go:24", after := #[eD 33, eG 31], guard := some (31, false) }) (v := ?vd34) rfl (by kernel_rfl) (by kernel_rfl) (by kernel_rfl) (fun _ _ _ => id) (Or.inl ⟨by rfl, ?hyd34⟩) (by assumption) ?restd34
     case hyd34 => intro w hSw; (try dsimp only at hSw); go_simp; all_goals (with_reducible rfl)
     try simp only [Act.put, zR]
     refine wpAnyH_take (i := 35) (oi := { dst := some 68, op := Op.call { callee := Callee.builtin Builtin.len, args := #[tmp 67], argTypes := #[24] }, type := 3, pos := "aff.go:24", after := #[eD 34, eG 31], guard := some (31, false) }) (v := ?vd35) rfl (by kernel_rfl) (by kernel_rfl) (by kernel_rfl) (fun _ _ _ => id) (Or.inl ⟨by rfl, ?hyd35⟩) (by assumption) ?restd35
     case hyd35 => intro w hSw; (try dsimp only at hSw); go_simp; all_goals (with_reducible rfl)
     try simp only [Act.put, zR]
     refine wpAnyH_take (i := 36) (oi := { dst := some 69, op := Op.binOp BinOp.eql 3 (tmp 68) (Operand.const (Value.int IntKind.i64 0)) 3, type := 4, pos := "aff.go:24", after := #[eD 35, eG 31], guard := some (31, false) }) (v := ?vd36) rfl (by kernel_rfl) (by kernel_rfl) (by kernel_rfl) (fun _ _ _ => id) (Or.inl ⟨by rfl, ?hyd36⟩) (by assumption) ?restd36
     case hyd36 => intro w hSw; (try dsimp only at hSw); go_simp; all_goals (with_reducible rfl)
     try simp only [Act.put, zR]
     refine wpAnyH_take (i := 37) (oi := { dst := some 70, op := Op.pick (tmp 64) (Operand.const (Value.bool true)) (tmp 69), type := 4, pos := "aff.go:24", after := #[eD 31, eD 36], guard := none }) (v := ?vd37) rfl (by kernel_rfl) (by kernel_rfl) (by kernel_rfl) (fun _ _ _ => id) (Or.inl ⟨by rfl, ?hyd37⟩) (by assumption) ?restd37
     case hyd37 => intro w hSw; (try dsimp only at hSw); go_simp; all_goals (with_reducible rfl)
     try simp only [Act.put, zR]
     refine wpAnyH_done (by kernel_rfl) ?_ _
     clear x0 x1 x2 x3 a0 a1 a2 a3 a4 y0 hN
     by_cases c5 : x.r.n = 0
     ·
      have c5' : (x.r.n : Int) = 0 := by omega
      have NO1 := Lib.hid (NO.out (fun h => h.2.2.2.2 c5))
      clear c5
      go_wp2
      go_ret
      exact ⟨by rw [NO1.out]; rfl, HB8.out⟩
     ·
      have c5' : ¬ (x.r.n : Int) = 0 := by omega
      have C5' := Lib.hid c5
      clear c5
      go_wp2
      go_roundw
      case rel => exact ⟨j + 1 + 1, by omega, by go_num, HT.out.step HX.out (by omega) (by omega) (fun y9 _ h9 => by rw [Nat.add_sub_cancel, HY.out] at h9; injection h9 with h9; subst h9; omega) HN.out C5'.out, HB9⟩
      case measure => simp [intOf]; omega
    ·
     have HN := Lib.hid hN
     refine wp_region_held_drew (S := fun w' => w'.cell? ⟨w.heap.size, 1, none⟩ = some (.slice (some ⟨g, off, none⟩) va.n va.c) ∧ w'.cell? ⟨wr.heap.size, 0, none⟩ = some (.int .i64 x.v) ∧ w'.cell? ⟨wr.heap.size, 0 + 1, none⟩ = some (.bool x.r.s) ∧ w'.cell? ⟨wr.heap.size, 0 + 2, none⟩ = some (.slice x.r.A x.r.n x.r.c) ∧ w'.cell? ⟨wr.heap.size, 0 + 3, none⟩ = some (.slice x.r.B x.r.m x.r.d) ∧ w'.cell? ⟨g, off + j * 4, none⟩ = some (.int .i64 y.v)) (by kernel_rfl) ?_ (fun hHeld => ?_)
     ·
      (try dsimp only)
      go_keep
     refine wpAnyH_take (i := 0) (oi := { dst := some 33, op := Op.fieldAddr 50 (tmp 6) 0, type := 0, pos := "aff.go:24", after := #[], guard := none }) (v := ?ve0) rfl (by kernel_rfl) (by kernel_rfl) (by kernel_rfl) (fun _ _ _ => id) (Or.inl ⟨by rfl, ?hye0⟩) (by assumption) ?reste0
     case hye0 => intro w hSw; (try dsimp only at hSw); go_simp; all_goals (with_reducible rfl)
     try simp only [Act.put, zR]
     refine wpAnyH_take (i := 1) (oi := { dst := some 34, op := Op.load 3 (tmp 33), type := 3, pos := "aff.go:24", after := #[eD 0], guard := none }) (v := ?ve1) rfl (by kernel_rfl) (by kernel_rfl) (by kernel_rfl) (fun _ _ _ => id) (Or.inl ⟨by rfl, ?hye1⟩) (by assumption) ?reste1
     case hye1 => intro w hSw; (try dsimp only at hSw); go_simp; all_goals (with_reducible rfl)
     try simp only [Act.put, zR]
     refine wpAnyH_take (i := 2) (oi := { dst := some 35, op := Op.binOp BinOp.lss 3 (tmp 34) (Operand.const (Value.int IntKind.i64 0)) 3, type := 4, pos := "aff.go:24", after := #[eD 1], guard := none }) (v := ?ve2) rfl (by kernel_rfl) (by kernel_rfl) (by kernel_rfl) (fun _ _ _ => id) (Or.inl ⟨by rfl, ?hye2⟩) (by assumption) ?reste2
     case hye2 => intro w hSw; (try dsimp only at hSw); go_simp; all_goals (with_reducible rfl)
     try simp only [Act.put, zR]
     refine wpAnyH_take (i := 3) (oi := { dst := some 36, op := Op.move (tmp 35), type := 4, pos := "aff.go:24", after := #[eD 2], guard := none }) (v := ?ve3) rfl (by kernel_rfl) (by kernel_rfl) (by kernel_rfl) (fun _ _ _ => id) (Or.inl ⟨by rfl, ?hye3⟩) (by assumption) ?reste3
     case hye3 => intro w hSw; (try dsimp only at hSw); go_simp; all_goals (with_reducible rfl)
     try simp only [Act.put, zR]
     refine wpAnyH_take (i := 4) (oi := { dst := some 37, op := Op.fieldAddr 50 (tmp 6) 0, type := 0, pos := "aff.go:24", after := #[eG 3], guard := some (3, false) }) (v := ?ve4) rfl (by kernel_rfl) (by kernel_rfl) (by kernel_rfl) (fun _ _ _ => id) (Or.inl ⟨by rfl, ?hye4⟩) (by assumption) ?reste4
     case hye4 => intro w hSw; (try dsimp only at hSw); go_simp; all_goals (with_reducible rfl)
     try simp only [Act.put, zR]
     refine wpAnyH_take (i := 5) (oi := { dst := some 38, op := Op.load 3 (tmp 37), type := 3, pos := "aff.go:24", after := #[eD 4, eG 3], guard := some (3, false) }) (v := ?ve5) rfl (by kernel_rfl) (by kernel_rfl) (by kernel_rfl) (fun _ _ _ => id) (Or.inl ⟨by rfl, ?hye5⟩) (by assumption) ?reste5
     case hye5 => intro w hSw; (try dsimp only at hSw); go_simp; all_goals (with_reducible rfl)
     try simp only [Act.put, zR]
     refine wpAnyH_take (i := 6) (oi := { dst := some 39, op := Op.move (tmp 1), type := 3, pos := "aff.go:24", after := #[eG 3], guard := some (3, false) }) (v := ?ve6) rfl (by kernel_rfl) (by kernel_rfl) (by kernel_rfl) (fun _ _ _ => id) (Or.inl ⟨by rfl, ?hye6⟩) (by assumption) ?reste6
     case hye6 => intro w hSw; (try dsimp only at hSw); go_simp; all_goals (with_reducible rfl)
     try simp only [Act.put, zR]
     refine wpAnyH_take (i := 7) (oi := { dst := some 40, op := Op.binOp BinOp.geq 3 (tmp 38) (tmp 39) 3, type := 4, pos := "aff.go:24", after := #[eD 5, eD 6, eG 3], guard := some (3, false) }) (v := ?ve7) rfl (by kernel_rfl) (by kernel_rfl) (by kernel_rfl) (fun _ _ _ => id) (Or.inl ⟨by rfl, ?hye7⟩) (by assumption) ?reste7
     case hye7 => intro w hSw; (try dsimp only at hSw); go_simp; all_goals (with_reducible rfl)
     try simp only [Act.put, zR]
     refine wpAnyH_take (i := 8) (oi := { dst := some 41, op := Op.pick (tmp 36) (Operand.const (Value.bool true)) (tmp 40), type := 4, pos := "aff.go:24", after := #[eD 3, eD 7], guard := none }) (v := ?ve8) rfl (by kernel_rfl) (by kernel_rfl) (by kernel_rfl) (fun _ _ _ => id) (Or.inl ⟨by rfl, ?hye8⟩) (by assumption) ?reste8
     case hye8 => intro w hSw; (try dsimp only at hSw); go_simp; all_goals (with_reducible rfl)
     try simp only [Act.put, zR]
     refine wpAnyH_take (i := 9) (oi := { dst := some 42, op := Op.move (tmp 41), type := 4, pos := "aff.go:24", after := #[eD 8, eC 3], guard := none }) (v := ?ve9) rfl (by kernel_rfl) (by kernel_rfl) (by kernel_rfl) (fun _ _ _ => id) (Or.inl ⟨by rfl, ?hye9⟩) (by assumption) ?reste9
     case hye9 => intro w hSw; (try dsimp only at hSw); go_simp; all_goals (with_reducible rfl)
     try simp only [Act.put, zR]
     refine wpAnyH_take (i := 10) (oi := { dst := some 43, op := Op.move (tmp 5), type := 3, pos := "aff.go:24", after := #[eG 9], guard := some (9, false) }) (v := ?ve10) rfl (by kernel_rfl) (by kernel_rfl) (by kernel_rfl) (fun _ _ _ => id) (Or.inl ⟨by rfl, ?hye10⟩) (by assumption) ?reste10
     case hye10 => intro w hSw; (try dsimp only at hSw); go_simp; all_goals (with_reducible rfl)
     try simp only [Act.put, zR]
     refine wpAnyH_take (i := 11) (oi := { dst := some 44, op := Op.binOp BinOp.gtr 3 (tmp 43) (Operand.const (Value.int IntKind.i64 0)) 3, type := 4, pos := "aff.go:24", after := #[eD 10, eG 9], guard := some (9, false) }) (v := ?ve11) rfl (by kernel_rfl) (by kernel_rfl) (by kernel_rfl) (fun _ _ _ => id) (Or.inl ⟨by rfl, ?hye11⟩) (by assumption) ?reste11
     case hye11 => intro w hSw; (try dsimp only at hSw); go_simp; all_goals (with_reducible rfl)
     try simp only [Act.put, zR]
     refine wpAnyH_take (i := 12) (oi := { dst := some 45, op := Op.move (tmp 44), type := 4, pos := "aff.go:24", after := #[eD 11, eC 9, eG 9], guard := some (9, false) }) (v := ?ve12) rfl (by kernel_rfl) (by kernel_rfl) (by kernel_rfl) (fun _ _ _ => id) (Or.inl ⟨by rfl, ?hye12⟩) (by assumption) ?reste12
     case hye12 => intro w hSw; (try dsimp only at hSw); go_simp; all_goals (with_reducible rfl)
     try simp only [Act.put, zR]
     refine wpAnyH_take (i := 13) (oi := { dst := some 46, op := Op.fieldAddr 28 (tmp 2) 1, type := 0, pos := "aff.go:24", after := #[eG 12], guard := some (12, true) }) (v := ?ve13) rfl (by kernel_rfl) (by kernel_rfl) (by kernel_rfl) (fun _ _ _ => id) (Or.inl ⟨by rfl, ?hye13⟩) (by assumption) ?reste13
     case hye13 => intro w hSw; (try dsimp only at hSw); go_simp; all_goals (with_reducible rfl)
     try simp only [Act.put, zR]
     refine wpAnyH_take (i := 14) (oi := { dst := some 47, op := Op.load 23 (tmp 46), type := 23, pos := "aff.go:24", after := #[eD 13, eG 12], guard := some (12, true) }) (v := ?ve14) rfl (by kernel_rfl) (by kernel_rfl) (by kernel_rfl) (fun _ _ _ => id) (Or.inl ⟨by rfl, ?hye14⟩) (by assumption) ?reste14
     case hye14 => intro w hSw; (try dsimp only at hSw); go_simp; all_goals (with_reducible rfl)
     try simp only [Act.put, zR]
     refine wpAnyH_take (i := 15) (oi := { dst := some 48, op := Op.move (tmp 5), type := 3, pos := "aff.go:24", after := #[eG 12], guard := some (12, true) }) (v := ?ve15) rfl (by kernel_rfl) (by kernel_rfl) (by kernel_rfl) (fun _ _ _ => id) (Or.inl ⟨by rfl, ?hye15⟩) (by assumption) ?reste15
     case hye15 => intro w hSw; (try dsimp only at hSw); go_simp; all_goals (with_reducible rfl)
     try simp only [Act.put, zR]
     refine wpAnyH_take (i := 16) (oi := { dst := some 49, op := Op.binOp BinOp.sub 3 (tmp 48) (Operand.const (Value.int IntKind.i64 1)) 3, type := 3, pos := "aff.go:24", after := #[eD 15, eG 12], guard := some (12, true) }) (v := ?ve16) rfl (by kernel_rfl) (by kernel_rfl) (by kernel_rfl) (fun _ _ _ => id) (Or.inl ⟨by rfl, ?hye16⟩) (by assumption) ?reste16
     case hye16 => intro w hSw; (try dsimp only at hSw); go_simp; all_goals (with_reducible rfl)
     try simp only [Act.put, zR]
     refine wpAnyH_take (i := 17) (oi := { dst := some 50, op := Op.indexAddr 23 (tmp 47) (tmp 49), type := 0, pos := "aff.go:24", after := #[eD 14, eD 16, eG 12], guard := some (12, true) }) (v := ?ve17) rfl (by kernel_rfl) (by kernel_rfl) (by kernel_rfl) (fun _ _ _ => id) (Or.inl ⟨by rfl, ?hye17⟩) (by assumption) ?reste17
     case hye17 => intro w hSw; (try dsimp only at hSw); go_simp; all_goals (with_reducible rfl)
     try simp only [Act.put, zR]
     refine wpAnyH_take (i := 18) (oi := { dst := some 51, op := Op.fieldAddr 50 (tmp 50) 0, type := 0, pos := "aff.go:24", after := #[eD 17, eG 12], guard := some (12, true) }) (v := ?ve18) rfl (by kernel_rfl) (by kernel_rfl) (by kernel_rfl) (fun _ _ _ => id) (Or.inl ⟨by rfl, ?hye18⟩) (by assumption) ?reste18
     case hye18 => intro w hSw; (try dsimp only at hSw); go_simp; all_goals (with_reducible rfl)
     try simp only [Act.put, zR]
     refine wpAnyH_take (i := 19) (oi := { dst := some 52, op := Op.load 3 (tmp 51), type := 3, pos := "aff.go:24", after := #[eD 18, eG 12], guard := some (12, true) }) (v := ?ve19) rfl (by kernel_rfl) (by kernel_rfl) (by kernel_rfl) (fun _ _ _ => id) (Or.inl ⟨by rfl, ?hye19⟩) (by assumption) ?reste19
     case hye19 => intro w hSw; (try dsimp only at hSw); go_simp; all_goals (with_reducible rfl)
     try simp only [Act.put, zR]
     refine wpAnyH_take (i := 20) (oi := { dst := some 53, op := Op.fieldAddr 50 (tmp 6) 0, type := 0, pos := "aff.go:24", after := #[eG 12], guard := some (12, true) }) (v := ?ve20) rfl (by kernel_rfl) (by kernel_rfl) (by kernel_rfl) (fun _ _ _ => id) (Or.inl ⟨by rfl, ?hye20⟩) (by assumption) ?reste20
     case hye20 => intro w hSw; (try dsimp only at hSw); go_simp; all_goals (with_reducible rfl)
     try simp only [Act.put, zR]
     refine wpAnyH_take (i := 21) (oi := { dst := some 54, op := Op.load 3 (tmp 53), type := 3, pos := "aff.go:24", after := #[eD 20, eG 12], guard := some (12, true) }) (v := ?ve21) rfl (by kernel_rfl) (by kernel_rfl) (by kernel_rfl) (fun _ _ _ => id) (Or.inl ⟨by rfl, ?hye21⟩) (by assumption) ?reste21
     case hye21 => intro w hSw; (try dsimp only at hSw); go_simp; all_goals (with_reducible rfl)
     try simp only [Act.put, zR]
     refine wpAnyH_take (i := 22) (oi := { dst := some 55, op := Op.binOp BinOp.geq 3 (tmp 52) (tmp 54) 3, type := 4, pos := "aff.go:24", after := #[eD 19, eD 21, eG 12], guard := some (12, true) }) (v := ?ve22) rfl (by kernel_rfl) (by kernel_rfl) (by kernel_rfl) (fun _ _ _ => id) (Or.inl ⟨by rfl, ?hye22⟩) (by assumption) ?reste22
     case hye22 => intro w hSw; (try dsimp only at hSw); go_simp; all_goals (with_reducible rfl)
     try simp only [Act.put, zR]
     refine wpAnyH_take (i := 23) (oi := { dst := some 56, op := Op.pick (tmp 45) (tmp 55) (Operand.const (Value.bool false)), type := 4, pos := "aff.go:24", after := #[eD 12, eD 22, eG 9], guard := some (9, false) }) (v := ?ve23) rfl (by kernel_rfl) (by kernel_rfl) (by kernel_rfl) (fun _ _ _ => id) (Or.inl ⟨by rfl, ?hye23⟩) (by assumption) ?reste23
     case hye23 => intro w hSw; (try dsimp only at hSw); go_simp; all_goals (with_reducible rfl)
     try simp only [Act.put, zR]
     refine wpAnyH_take (i := 24) (oi := { dst := some 57, op := Op.pick (tmp 42) (Operand.const (Value.bool true)) (tmp 56), type := 4, pos := "aff.go:24", after := #[eD 9, eD 23], guard := none }) (v := ?ve24) rfl (by kernel_rfl) (by kernel_rfl) (by kernel_rfl) (fun _ _ _ => id) (Or.inl ⟨by rfl, ?hye24⟩) (by assumption) ?reste24
     case hye24 => intro w hSw; (try dsimp only at hSw); go_simp; all_goals (with_reducible rfl)
     try simp only [Act.put, zR]
     refine wpAnyH_take (i := 25) (oi := { dst := some 58, op := Op.move (tmp 57), type := 4, pos := "aff.go:24", after := #[eD 24, eC 12], guard := none }) (v := ?ve25) rfl (by kernel_rfl) (by kernel_rfl) (by kernel_rfl) (fun _ _ _ => id) (Or.inl ⟨by rfl, ?hye25⟩) (by assumption) ?reste25
     case hye25 => intro w hSw; (try dsimp only at hSw); go_simp; all_goals (with_reducible rfl)
     try simp only [Act.put, zR]
     refine wpAnyH_take (i := 26) (oi := { dst := some 59, op := Op.fieldAddr 50 (tmp 6) 1, type := 0, pos := "aff.go:24", after := #[eG 25], guard := some (25, false) }) (v := ?ve26) rfl (by kernel_rfl) (by kernel_rfl) (by kernel_rfl) (fun _ _ _ => id) (Or.inl ⟨by rfl, ?hye26⟩) (by assumption) ?reste26
     case hye26 => intro w hSw; (try dsimp only at hSw); go_simp; all_goals (with_reducible rfl)
     try simp only [Act.put, zR]
     refine wpAnyH_take (i := 27) (oi := { dst := some 60, op := Op.load 26 (tmp 59), type := 26, pos := "aff.go:24", after := #[eD 26, eG 25], guard := some (25, false) }) (v := ?ve27) rfl (by kernel_rfl) (by kernel_rfl) (by kernel_rfl) (fun _ _ _ => id) (Or.inl ⟨by rfl, ?hye27⟩) (by assumption) ?reste27
     case hye27 => intro w hSw; (try dsimp only at hSw); go_simp; all_goals (with_reducible rfl)
     try simp only [Act.put, zR]
     refine wpAnyH_ready (rs := [28]) (by kernel_rfl) (by simp) ?_
     refine AllReadyH.cons (o := { dst := some 61, op := Op.call { callee := Callee.value (Operand.func 46), args := #[tmp 60], argTypes := #[26] }, type := 4, pos := "aff.go:24", after := #[eD 27, eC 25, eG 25], guard := some (25, false) }) rfl (fun K hK => ?_) AllReadyH.nil
     go_simp
     go_at_call 46
     refine (rIs_v x.r X.2 false _ ((HXR.out.below HBB.out).below (bel1 WA)) ⟨fun h => (by cases h), fun h => absurd ((Nrm.iff HXR.out (HBB.out.trans ((bel1 WA).mono HBB.out.size))).2 h) hN⟩).mono ?_
     rintro ee w2 ⟨rfl, hb⟩
     have hb' := (bel1 WA).trans hb
     have hk := hb'.block wr.heap.size (by omega)
     obtain ⟨a0, a1, a2, a3, a4⟩ := (ka.below hb').facts
     rw [HVA.out] at a1
     replace x0 := (World.cell?_of_block hk).trans x0
     replace x1 := (World.cell?_of_block hk).trans x1
     replace x2 := (World.cell?_of_block hk).trans x2
     replace x3 := (World.cell?_of_block hk).trans x3
     have hky := hb'.block g (Nat.lt_of_lt_of_le hgw HBB.out.size)
     replace y0 := (World.cell?_of_block hky).trans y0
     clear hky
     have HB9 := Lib.hid (HBA.out.trans (hb'.mono HBA.out.size))
     have HB8 := Lib.hid (HBB.out.trans (hb'.mono HBB.out.size))
     clear hk hb hb'
     try go_wp2_with fail
     refine hK.out _ _ ?_ fun hHeld => ?_
     · (try dsimp only); go_keep
     clear hK K
     try simp only [Act.put, zR]
     refine wpAnyH_take (i := 29) (oi := { dst := some 62, op := Op.unOp UnOp.not 4 (tmp 61), type := 4, pos := "aff.go:24", after := #[eD 28, eG 25], guard := some (25, false) }) (v := ?ve29) rfl (by kernel_rfl) (by kernel_rfl) (by kernel_rfl) (fun _ _ _ => id) (Or.inl ⟨by rfl, ?hye29⟩) (by assumption) ?reste29
     case hye29 => intro w hSw; (try dsimp only at hSw); go_simp; all_goals (with_reducible rfl)
     try simp only [Act.put, zR]
     refine wpAnyH_take (i := 30) (oi := { dst := some 63, op := Op.pick (tmp 58) (Operand.const (Value.bool true)) (tmp 62), type := 4, pos := "aff.go:24", after := #[eD 25, eD 29], guard := none }) (v := ?ve30) rfl (by kernel_rfl) (by kernel_rfl) (by kernel_rfl) (fun _ _ _ => id) (Or.inl ⟨by rfl, ?hye30⟩) (by assumption) ?reste30
     case hye30 => intro w hSw; (try dsimp only at hSw); go_simp; all_goals (with_reducible rfl)
     try simp only [Act.put, zR]
     refine wpAnyH_take (i := 31) (oi := { dst := some 64, op := Op.move (tmp 63), type := 4, pos := "aff.go:24", after := #[eD 30, eC 28], guard := none }) (v := ?ve31) rfl (by kernel_rfl) (by kernel_rfl) (by kernel_rfl) (fun _ _ _ => id) (Or.inl ⟨by rfl, ?hye31⟩) (by assumption) ?reste31
     case hye31 => intro w hSw; (try dsimp only at hSw); go_simp; all_goals (with_reducible rfl)
     try simp only [Act.put, zR]
     refine wpAnyH_take (i := 32) (oi := { dst := some 65, op := Op.fieldAddr 50 (tmp 6) 1, type := 0, pos := "aff.go:24", after := #[eG 31], guard := some (31, false) }) (v := undef) rfl (by kernel_rfl) (by kernel_rfl) (by kernel_rfl) (fun _ _ _ => id) (Or.inr ⟨by rfl, rfl⟩) (by assumption) ?_
     try simp only [Act.put, zR]
     refine wpAnyH_take (i := 33) (oi := { dst := some 66, op := Op.fieldAddr 26 (tmp 65) 1, type := 0, pos := "aff.go:24", after := #[eD 32, eG 31], guard := some (31, false) }) (v := undef) rfl (by kernel_rfl) (by kernel_rfl) (by kernel_rfl) (fun _ _ _ => id) (Or.inr ⟨by rfl, rfl⟩) (by assumption) ?_
     try simp only [Act.put, zR]
     refine wpAnyH_take (i := 34) (oi := { dst := some 67, op := Op.load 24 (tmp 66), type := 24, pos := "aff.go:24", after := #[eD 33, eG 31], guard := some (31, false) }) (v := undef) rfl (by kernel_rfl) (by kernel_rfl) (by kernel_rfl) (fun _ _ _ => id) (Or.inr ⟨by rfl, rfl⟩) (by assumption) ?_
     try simp only [Act.put, zR]
     refine wpAnyH_take (i := 35) (oi := { dst := some 68, op := Op.call { callee := Callee.builtin Builtin.len, args := #[tmp 67], argTypes := #[24] }, type := 3, pos := "aff.go:24", after := #[eD 34, eG 31], guard := some (31, false) }) (v := undef) rfl (by kernel_rfl) (by kernel_rfl) (by kernel_rfl) (fun _ _ _ => id) (Or.inr ⟨by rfl, rfl⟩) (by assumption) ?_
     try simp only [Act.put, zR]
     refine wpAnyH_take (i := 36) (oi := { dst := some 69, op := Op.binOp BinOp.eql 3 (tmp 68) (Operand.const (Value.int IntKind.i64 0)) 3, type := 4, pos := "aff.go:24", after := #[eD 35, eG 31], guard := some (31, false) }) (v := undef) rfl (by kernel_rfl) (by kernel_rfl) (by kernel_rfl) (fun _ _ _ => id) (Or.inr ⟨by rfl, rfl⟩) (by assumption) ?_
     try simp only [Act.put, zR]
     refine wpAnyH_take (i := 37) (oi := { dst := some 70, op := Op.pick (tmp 64) (Operand.const (Value.bool true)) (tmp 69), type := 4, pos := "aff.go:24", after := #[eD 31, eD 36], guard := none }) (v := ?ve37) rfl (by kernel_rfl) (by kernel_rfl) (by kernel_rfl) (fun _ _ _ => id) (Or.inl ⟨by rfl, ?hye37⟩) (by assumption) ?reste37
     case hye37 => intro w hSw; (try dsimp only at hSw); go_simp; all_goals (with_reducible rfl)
     try simp only [Act.put, zR]
     refine wpAnyH_done (by kernel_rfl) ?_ _
     clear x0 x1 x2 x3 a0 a1 a2 a3 a4 y0 hN
     have NO1 := Lib.hid (NO.out (fun h => HN.out h.2.2.2.1))
     go_wp2
     go_ret
     exact ⟨by rw [NO1.out]; rfl, HB8.out⟩
  ·
   have i1 : ¬ (i : Int) < (va.n : Int) := by omega
   go_wp2
   go_ret
   refine ⟨?_, HBW.out⟩
   have e1 : r = true := hr'.out.2 (fun j x hj hx => HT.out j x (by rw [HW0.out.1.len] at hj; omega) hx)
   rw [e1]; rfl
set_option maxHeartbeats 3200000 in
theorem rIsK_c (va : Cv) (N : Int) (la : List Tv) (L : List (Int × Rat)) (k : Rat) (w : World) (hN : 0 ≤ N ∧ N ≤ 9223372036854775807 ∨ N < 0 ∧ -9223372036854775808 ≤ N) (hnc : va.n ≤ va.c) (ha2 : Tms w 0 va.A va.n la) (ha3 : Rds w 19000000000 la L) (ha4 : Rw w va.K k 19000000000) (hn : va.n ≤ 1000) (r : Bool) (hr : r = true ↔ IsS w va la N) :
  Calls Tryz.prog 21 #[.agg #[.int .i64 va.s, .slice va.A va.n va.c, .bool va.K.s, .slice va.K.A va.K.n va.K.c, .slice va.K.B va.K.m va.K.d], .int .i64 N] w fun e w' => e = .returned (.bool r) ∧ Below w.heap.size w w' := by
 have NO : ¬ IsS w va la N → r = false := fun h => by
  cases hrr : r with
  | false => rfl
  | true => exact absurd (hr.1 hrr) h
 by_cases s0 : 0 ≤ va.s
 ·
  by_cases s4 : va.s ≤ 4
  ·
   by_cases hK : Nrm w va.K
   · exact rIsK_yes va N la L k w hN hnc ha2 ha3 ha4 hn s0 s4 hK r (hr.trans ⟨fun h => h.2.2, fun h => ⟨⟨s0, s4⟩, hK, h⟩⟩)
   ·
    have NO1 := Lib.hid (NO (fun h => hK h.2.1))
    have HK := Lib.hid hK
    have s0' : ¬ va.s < 0 := by omega
    have s4' : ¬ 4 < va.s := by omega
    have HA := Lib.hid ha4
    clear hr NO ha2 ha3 ha4 hK
    go_enter Tryz.func21, Tryz.ntmps21
    go_wp2_with fail
    generalize hW : w.alloc (.cells #[.int .i64 va.s, .slice va.A va.n va.c, .bool va.K.s, .slice va.K.A va.K.n va.K.c, .slice va.K.B va.K.m va.K.d] 28) = W
    obtain ⟨ka, HW, hsW⟩ := openK1 w va W hW
    clear hW
    refine (rIs_v va.K k false _ (HA.out.below HW) ⟨fun h => (by cases h), fun h => absurd ((Nrm.iff HA.out HW).2 h) HK.out⟩).mono ?_
    rintro e w1 ⟨rfl, hb1'⟩
    have HB1 := Lib.hid (HW.trans (hb1'.mono (by omega)))
    clear hb1' HW ka
    go_wp2
    go_ret
    exact ⟨by rw [NO1.out]; rfl, HB1.out⟩
  ·
   have NO1 := Lib.hid (NO (fun h => s4 h.1.2))
   have s4' : 4 < va.s := by omega
   have HB1 := Lib.hid ((Below.refl w.heap.size w).alloc (Nat.le_refl _) (.cells #[.int .i64 va.s, .slice va.A va.n va.c, .bool va.K.s, .slice va.K.A va.K.n va.K.c, .slice va.K.B va.K.m va.K.d] 28))
   have s0' : ¬ va.s < 0 := by omega
   clear hr NO ha2 ha3 ha4
   go_enter Tryz.func21, Tryz.ntmps21
   go_wp2
   go_ret
   exact ⟨by rw [NO1.out]; rfl, HB1.out⟩
 ·
  have NO1 := Lib.hid (NO (fun h => s0 h.1.1))
  have s0' : va.s < 0 := by omega
  have HB1 := Lib.hid ((Below.refl w.heap.size w).alloc (Nat.le_refl _) (.cells #[.int .i64 va.s, .slice va.A va.n va.c, .bool va.K.s, .slice va.K.A va.K.n va.K.c, .slice va.K.B va.K.m va.K.d] 28))
  clear hr NO ha2 ha3 ha4
  go_enter Tryz.func21, Tryz.ntmps21
  go_wp2
  go_ret
  exact ⟨by rw [NO1.out]; rfl, HB1.out⟩
end Go.Proofs.YtkfkjdpkkagjgaaGreat
