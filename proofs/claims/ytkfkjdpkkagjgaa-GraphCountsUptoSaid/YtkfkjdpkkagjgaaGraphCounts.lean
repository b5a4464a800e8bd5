/-
  GraphCounts: a forest has as many joins as variables that are joined to a lesser one; more make a ring.
-/
import Derived.Test.YtkfkjdpkkagjgaaGcon
import Derived.Test.YtkfkjdpkkagjgaaRIgz
namespace Go.Proofs.Ytkfkjdpkkagjgaa
set_option maxRecDepth 20000
open Go.RowKit

theorem joins_step {cs : List (List Nat)} {i : Nat} {c : List Nat} (h : cs[i]? = some c) : joinsL (cs.take (i + 1)) = joinsL (cs.take i) + (c.length - 1) := by
  unfold joinsL
  rw [take_get h, List.map_append, List.sum_append]
  simp
theorem vr_len {w : World} {N : Nat} {x : Cv × List Tv} (h : Gin w x) (hs : IsS w x.1 x.2 (N : Int)) : (vr w N x).length = x.1.n := by
  rw [vr_yes hs, List.length_map]; exact h.row.len
set_option maxHeartbeats 12800000 in
theorem GraphCounts_any (A : Option Addr) (m c : Nat) (n : Int) (ps : List (Cv × List Tv)) (w : World) (hk : Kons w A m (ps.map (·.1))) (hf : ∀ x ∈ ps, Raw w x.1 x.2) (hm : m ≤ 1048576) :
    Calls Try.prog 6 #[.slice A m c, .int .i64 n] w fun e w' => e = .returned (.bool true) ∧ Below w.heap.size w w' := by
  have HK := Lib.hid hk
  have HF := Lib.hid hf
  clear hk hf
  go_enter Try.func6, Try.ntmps6
  go_wp2_with fail
  refine (heavyH_c A m c ps _ HK.out (fun x hx => (HF.out x hx).fit) hm).mono ?_
  rintro e w1 ⟨r, rfl, hr, hb⟩
  have HR := Lib.hid hr
  have HB1 := Lib.hid hb
  clear hr hb
  cases r with
  | true =>
    go_wp2
    go_ret
    exact ⟨rfl, HB1.out⟩
  | false =>
  by_cases hn1 : n < 1
  · go_wp2
    go_ret
    exact ⟨rfl, HB1.out⟩
  by_cases hn64 : 64 < n
  · go_wp2
    go_ret
    exact ⟨rfl, HB1.out⟩
  obtain ⟨N, rfl⟩ : ∃ N : Nat, n = (N : Int) := ⟨n.toNat, by omega⟩
  have HN : Hid (bndN (N : Int) = N) := by show _ = _; unfold bndN; omega
  obtain ⟨hm75, hg⟩ := gns_of HK.out HF.out (HR.out rfl)
  have HV := Lib.hid (hg.below HB1.out)
  have n0 : (0 : Int) ≤ (N : Int) := by omega
  have n64 : (N : Int) ≤ 64 := by omega
  have m0 : (0 : Int) ≤ (m : Int) := by omega
  have m2 : (m : Int) ≤ 75 := by omega
  have hN1 : 1 ≤ N := by omega
  have hN64 : N ≤ 64 := by omega
  clear hg hm HF HR HK
  obtain ⟨cs, hcs⟩ : ∃ cs, csOf w1 N ps = cs := ⟨_, rfl⟩
  have HC := Lib.hid hcs
  have HL : Hid (cs.length = m) := by show _ = _; rw [← hcs, csOf, List.length_map]; exact HV.out.len
  have HBN : Hid (bnd N cs) := hcs ▸ csOf_bnd w1 N ps
  clear hcs
  go_wp2
  go_loopw [5, 7] (fun jv iv wr => ∃ i q : Nat, i ≤ m ∧ q ≤ 1000 * i ∧ iv = .int .i64 i ∧ jv = .int .i64 q ∧ Hid (q = joinsL (cs.take i)) ∧ Hid (Below w1.heap.size w1 wr)) (fun _ iv _ => m - (intOf iv).toNat)
  case atStart => exact ⟨0, 0, Nat.zero_le _, Nat.zero_le _, rfl, rfl, Lib.hid (by rw [List.take_zero]; rfl), Lib.hid (Below.refl _ _)⟩
  case round =>
    obtain ⟨i, q, hi, hq, rfl, rfl, HQ, HBR⟩ := hrel
    have i0 : (0 : Int) ≤ (i : Int) := by omega
    have q0 : (0 : Int) ≤ (q : Int) := by omega
    have q1 : (q : Int) ≤ 75000 := by omega
    by_cases hlt : i < m
    · have i1 : (i : Int) < (m : Int) := by omega
      have hil : i < ps.length := by have := HV.out.len; omega
      obtain ⟨b, off, hA, hbw, hcc⟩ := HV.out.kons.mem (by omega)
      have hx := List.getElem?_eq_getElem hil
      have hxm : (ps.map (·.1))[i]? = some ps[i].1 := by rw [List.getElem?_map, hx]; rfl
      have hci : cs[i]? = some (vr w1 N ps[i]) := by rw [← HC.out, csOf, List.getElem?_map, hx]; rfl
      have HGI := Lib.hid (HV.out.each _ (List.getElem_mem hil))
      obtain ⟨k0, k1, k2, k3, k4⟩ := (hcc i _ hxm).keep (HBR.out.block b hbw)
      generalize ps[i] = x at *
      obtain ⟨va, la⟩ := x
      replace k0 : wr.cell? ⟨b, off + i * 5, none⟩ = some (.int .i64 va.s) := k0
      replace k1 : wr.cell? ⟨b, off + i * 5 + 1, none⟩ = some (.slice va.A va.n va.c) := k1
      replace k2 : wr.cell? ⟨b, off + i * 5 + 2, none⟩ = some (.bool va.K.s) := k2
      replace k3 : wr.cell? ⟨b, off + i * 5 + 3, none⟩ = some (.slice va.K.A va.K.n va.K.c) := k3
      replace k4 : wr.cell? ⟨b, off + i * 5 + 4, none⟩ = some (.slice va.K.B va.K.m va.K.d) := k4
      replace HGI : Hid (Gin w1 (va, la)) := HGI
      have HCI : Hid (cs[i]? = some (vr w1 N (va, la))) := hci
      have HBK : Hid (b < wr.heap.size) := Nat.lt_of_lt_of_le hbw HBR.out.size
      have v1000 : va.n ≤ 1000 := HGI.out.n
      have v0 : (0 : Int) ≤ (va.n : Int) := by omega
      have v1 : (va.n : Int) ≤ 1000 := by omega
      obtain ⟨L, hL⟩ := (HGI.out.below HBR.out).rd
      obtain ⟨k, hk⟩ := (HGI.out.below HBR.out).k
      have HLK := Lib.hid (And.intro hL hk)
      subst hA
      clear hx hxm hcc hci hL hk hbw
      go_wp2_with fail
      by_cases hs : IsS w1 va la (N : Int)
      · have HS : Hid ((vr w1 N (va, la)).length = va.n) := vr_len HGI.out hs
        refine (rIsK_c va (N : Int) la L k wr (by omega) HGI.out.cap (HGI.out.below HBR.out).row (HLK.out.1.more (by omega)) (HLK.out.2.more (by omega)) v1000 true ⟨fun _ => (HGI.out.turn HBR.out _).1 hs, fun _ => rfl⟩).mono ?_
        rintro e w2 ⟨rfl, hb2⟩
        have hk := hb2.block b HBK.out
        replace k1 := (World.cell?_of_block hk).trans k1
        have H2 : Hid (Below w1.heap.size w1 w2) := HBR.out.trans (hb2.mono HBR.out.size)
        clear hk hb2 hs k0 k2 k3 k4
        have HJ : Hid (joinsL (cs.take (i + 1)) = q + (va.n - 1)) := by show _ = _; rw [joins_step HCI.out, HS.out, ← HQ.out]
        rcases Nat.eq_zero_or_pos va.n with h0 | h0
        · have g1 : max (0 : Int) ((va.n : Int) - 1) = 0 := by omega
          have HJ2 : Hid (q = joinsL (cs.take (i + 1))) := by have := HJ.out; show _ = _; omega
          clear h0 HJ
          go_wp2
          go_roundw
          case rel => exact ⟨i + 1, q, by omega, by omega, by go_num, by first | rfl | (simp; omega) | go_num, HJ2, H2⟩
          case measure => simp [intOf]; omega
        · have g1 : max (0 : Int) ((va.n : Int) - 1) = ((va.n - 1 : Nat) : Int) := by omega
          have HJ2 : Hid (q + (va.n - 1) = joinsL (cs.take (i + 1))) := HJ.out.symm
          clear h0 HJ
          go_wp2
          go_roundw
          case rel => exact ⟨i + 1, q + (va.n - 1), by omega, by omega, by go_num, by first | rfl | (simp; omega) | go_num, HJ2, H2⟩
          case measure => simp [intOf]; omega
      · have HS : Hid (vr w1 N (va, la) = []) := vr_no hs
        refine (rIsK_c va (N : Int) la L k wr (by omega) HGI.out.cap (HGI.out.below HBR.out).row (HLK.out.1.more (by omega)) (HLK.out.2.more (by omega)) v1000 false ⟨fun h => (by cases h), fun h => absurd ((HGI.out.turn HBR.out _).2 h) hs⟩).mono ?_
        rintro e w2 ⟨rfl, hb2⟩
        have H2 : Hid (Below w1.heap.size w1 w2) := HBR.out.trans (hb2.mono HBR.out.size)
        have HJ : Hid (q = joinsL (cs.take (i + 1))) := by show _ = _; rw [joins_step HCI.out, HS.out, ← HQ.out]; rfl
        clear hb2 hs k0 k1 k2 k3 k4
        go_wp2
        go_roundw
        case rel => exact ⟨i + 1, q, by omega, by omega, by go_num, rfl, HJ, H2⟩
        case measure => simp [intOf]; omega
    · have e : cs.take i = cs := List.take_of_length_le (by have := HL.out; omega)
      have HQ2 : Hid (q = joinsL cs) := by have := HQ.out; rw [e] at this; exact this
      have i1 : ¬ (i : Int) < (m : Int) := by omega
      clear e HQ
      go_wp2_with fail
      refine (Apart_c (N : Int) N HN.out A m c ps cs w1 wr HV.out HC.out HBR.out).mono ?_
      rintro e w2 ⟨A2, c2, rfl, ho, hb2⟩
      obtain ⟨r, hr⟩ : ∃ r, r = runN N cs := ⟨_, rfl⟩
      rw [← hr] at ho
      have HRT : Hid (∀ v, v < N → rt r v ≤ v ∧ rt r (rt r v) = rt r v) := by
        obtain ⟨_, _, h, _⟩ := runN_rts HBN.out
        rw [← hr] at h
        exact fun v hv => ⟨h.le v hv, h.idem v hv⟩
      have HTOT : Hid (cnt r N + failN N cs = q) := by show _ = _; rw [hr, HQ2.out]; exact totalN HBN.out
      have H2 : Hid (IRow w2 A2 N r ∧ Below w1.heap.size w1 w2) := ⟨ho.row, HBR.out.trans (hb2.mono HBR.out.size)⟩
      have e0 : ((N : Int) != (N : Int)) = false := by simp
      clear ho hb2 hr HBR
      go_wp2
      go_loopw [6, 9] (fun lv vv wr => ∃ v l : Nat, v ≤ N ∧ l ≤ v ∧ vv = .int .i64 v ∧ lv = .int .i64 l ∧ Hid (l = cnt r v) ∧ Hid (Below w2.heap.size w2 wr)) (fun _ vv _ => N - (intOf vv).toNat)
      case atStart => exact ⟨0, 0, Nat.zero_le _, Nat.le_refl _, rfl, rfl, Lib.hid rfl, Lib.hid (Below.refl _ _)⟩
      case round =>
        obtain ⟨v, l, hv, hl, rfl, rfl, HQ, HBR⟩ := hrel
        have v0 : (0 : Int) ≤ (v : Int) := by omega
        have l0 : (0 : Int) ≤ (l : Int) := by omega
        have l1 : (l : Int) ≤ 64 := by omega
        by_cases hlt : v < N
        · have v1 : (v : Int) < (N : Int) := by omega
          obtain ⟨b, off, rfl, hb, hcell⟩ := (H2.out.1.below HBR.out).mem (by omega)
          obtain ⟨h1, h2⟩ := HRT.out v hlt
          have c0 := hcell v hlt
          have c1 := hcell (rt r v) (by omega)
          rw [h2] at c1
          have HC1 : Hid (cnt r (v + 1) = l + (if rt r v < v then 1 else 0)) := by show _ = _; rw [cnt, ← HQ.out]
          clear h2 hcell hb HQ
          generalize rt r v = x at *
          have x0 : (0 : Int) ≤ (x : Int) := by omega
          have x1 : (x : Int) < (N : Int) := by omega
          have g0 : ¬ (x : Int) < 0 := by omega
          have g1 : ¬ (v : Int) < (x : Int) := by omega
          have g2 : ((x : Int) != (x : Int)) = false := by simp
          have g1d : decide ((v : Int) < (x : Int)) = false := decide_eq_false g1
          have g1n : decide (v < x) = false := decide_eq_false (by omega)
          have g0d : decide ((x : Int) < 0) = false := decide_eq_false g0
          by_cases hxv : x < v
          · have g3 : (x : Int) < (v : Int) := by omega
            have HC2 : Hid (l + 1 = cnt r (v + 1)) := by show _ = _; rw [HC1.out, if_pos hxv]
            clear hxv HC1 h1
            go_wp2
            refine wp_region_held_drew (S := fun w' => w'.cell? ⟨b, off + v, none⟩ = some (.int .i64 (x : Int)) ∧ w'.cell? ⟨b, off + x, none⟩ = some (.int .i64 (x : Int))) (by kernel_rfl) ?_ (fun hHeld => ?_)
            · (try dsimp only)
              go_keep
            refine wpAnyH_take (i := 0) (oi := { dst := some 54, op := Op.move (Operand.tmp 8), type := 36, pos := "law.go:85", after := #[], guard := none }) (v := ?vq1x) rfl (by kernel_rfl) (by kernel_rfl) (by kernel_rfl) (fun _ _ _ h => h) (Or.inl ⟨by rfl, ?hyq1x⟩) (by assumption) ?restq1x
            case hyq1x =>
              intro w hSw
              (try dsimp only at hSw)
              go_simp
              all_goals (with_reducible rfl)
            try simp only [Act.put, List.setIfInBounds_toArray, List.set_cons_zero, List.set_cons_succ]
            refine wpAnyH_take (i := 1) (oi := { dst := some 55, op := Op.move (Operand.tmp 9), type := 3, pos := "law.go:85", after := #[], guard := none }) (v := ?vq2x) rfl (by kernel_rfl) (by kernel_rfl) (by kernel_rfl) (fun _ _ _ h => h) (Or.inl ⟨by rfl, ?hyq2x⟩) (by assumption) ?restq2x
            case hyq2x =>
              intro w hSw
              (try dsimp only at hSw)
              go_simp
              all_goals (with_reducible rfl)
            try simp only [Act.put, List.setIfInBounds_toArray, List.set_cons_zero, List.set_cons_succ]
            refine wpAnyH_take (i := 2) (oi := { dst := some 56, op := Op.indexAddr 36 (Operand.tmp 54) (Operand.tmp 55), type := 0, pos := "law.go:85", after := #[{ on := 0, ground := Ground.data }, { on := 1, ground := Ground.data }], guard := none }) (v := ?vq3x) rfl (by kernel_rfl) (by kernel_rfl) (by kernel_rfl) (fun _ _ _ h => h) (Or.inl ⟨by rfl, ?hyq3x⟩) (by assumption) ?restq3x
            case hyq3x =>
              intro w hSw
              (try dsimp only at hSw)
              go_simp
              all_goals (with_reducible rfl)
            try simp only [Act.put, List.setIfInBounds_toArray, List.set_cons_zero, List.set_cons_succ]
            refine wpAnyH_take (i := 3) (oi := { dst := some 57, op := Op.load 3 (Operand.tmp 56), type := 3, pos := "law.go:85", after := #[{ on := 2, ground := Ground.data }], guard := none }) (v := ?vq4x) rfl (by kernel_rfl) (by kernel_rfl) (by kernel_rfl) (fun _ _ _ h => h) (Or.inl ⟨by rfl, ?hyq4x⟩) (by assumption) ?restq4x
            case hyq4x =>
              intro w hSw
              (try dsimp only at hSw)
              go_simp
              all_goals (with_reducible rfl)
            try simp only [Act.put, List.setIfInBounds_toArray, List.set_cons_zero, List.set_cons_succ]
            refine wpAnyH_take (i := 4) (oi := { dst := some 58, op := Op.binOp BinOp.lss 3 (Operand.tmp 57) (Operand.const (Value.int IntKind.i64 0)) 3, type := 4, pos := "law.go:85", after := #[{ on := 3, ground := Ground.data }], guard := none }) (v := ?vq5x) rfl (by kernel_rfl) (by kernel_rfl) (by kernel_rfl) (fun _ _ _ h => h) (Or.inl ⟨by rfl, ?hyq5x⟩) (by assumption) ?restq5x
            case hyq5x =>
              intro w hSw
              (try dsimp only at hSw)
              go_simp
              all_goals (with_reducible rfl)
            try simp only [Act.put, List.setIfInBounds_toArray, List.set_cons_zero, List.set_cons_succ]
            refine wpAnyH_take (i := 5) (oi := { dst := some 59, op := Op.move (Operand.tmp 58), type := 4, pos := "law.go:85", after := #[{ on := 4, ground := Ground.data }], guard := none }) (v := ?vq6x) rfl (by kernel_rfl) (by kernel_rfl) (by kernel_rfl) (fun _ _ _ h => h) (Or.inl ⟨by rfl, ?hyq6x⟩) (by assumption) ?restq6x
            case hyq6x =>
              intro w hSw
              (try dsimp only at hSw)
              go_simp
              all_goals (with_reducible rfl)
            try simp only [Act.put, List.setIfInBounds_toArray, List.set_cons_zero, List.set_cons_succ]
            refine wpAnyH_take (i := 6) (oi := { dst := some 60, op := Op.move (Operand.tmp 8), type := 36, pos := "law.go:85", after := #[{ on := 5, ground := Ground.guard }], guard := some (5, false) }) (v := ?vq7x) rfl (by kernel_rfl) (by kernel_rfl) (by kernel_rfl) (fun _ _ _ h => h) (Or.inl ⟨by rfl, ?hyq7x⟩) (by assumption) ?restq7x
            case hyq7x =>
              intro w hSw
              (try dsimp only at hSw)
              go_simp
              all_goals (with_reducible rfl)
            try simp only [Act.put, List.setIfInBounds_toArray, List.set_cons_zero, List.set_cons_succ]
            refine wpAnyH_take (i := 7) (oi := { dst := some 61, op := Op.move (Operand.tmp 9), type := 3, pos := "law.go:85", after := #[{ on := 5, ground := Ground.guard }], guard := some (5, false) }) (v := ?vq8x) rfl (by kernel_rfl) (by kernel_rfl) (by kernel_rfl) (fun _ _ _ h => h) (Or.inl ⟨by rfl, ?hyq8x⟩) (by assumption) ?restq8x
            case hyq8x =>
              intro w hSw
              (try dsimp only at hSw)
              go_simp
              all_goals (with_reducible rfl)
            try simp only [Act.put, List.setIfInBounds_toArray, List.set_cons_zero, List.set_cons_succ]
            refine wpAnyH_take (i := 8) (oi := { dst := some 62, op := Op.indexAddr 36 (Operand.tmp 60) (Operand.tmp 61), type := 0, pos := "law.go:85", after := #[{ on := 6, ground := Ground.data }, { on := 7, ground := Ground.data }, { on := 5, ground := Ground.guard }], guard := some (5, false) }) (v := ?vq9x) rfl (by kernel_rfl) (by kernel_rfl) (by kernel_rfl) (fun _ _ _ h => h) (Or.inl ⟨by rfl, ?hyq9x⟩) (by assumption) ?restq9x
            case hyq9x =>
              intro w hSw
              (try dsimp only at hSw)
              go_simp
              all_goals (with_reducible rfl)
            try simp only [Act.put, List.setIfInBounds_toArray, List.set_cons_zero, List.set_cons_succ]
            refine wpAnyH_take (i := 9) (oi := { dst := some 63, op := Op.load 3 (Operand.tmp 62), type := 3, pos := "law.go:85", after := #[{ on := 8, ground := Ground.data }, { on := 5, ground := Ground.guard }], guard := some (5, false) }) (v := ?vq10x) rfl (by kernel_rfl) (by kernel_rfl) (by kernel_rfl) (fun _ _ _ h => h) (Or.inl ⟨by rfl, ?hyq10x⟩) (by assumption) ?restq10x
            case hyq10x =>
              intro w hSw
              (try dsimp only at hSw)
              go_simp
              all_goals (with_reducible rfl)
            try simp only [Act.put, List.setIfInBounds_toArray, List.set_cons_zero, List.set_cons_succ]
            refine wpAnyH_take (i := 10) (oi := { dst := some 64, op := Op.move (Operand.tmp 9), type := 3, pos := "law.go:85", after := #[{ on := 5, ground := Ground.guard }], guard := some (5, false) }) (v := ?vq11x) rfl (by kernel_rfl) (by kernel_rfl) (by kernel_rfl) (fun _ _ _ h => h) (Or.inl ⟨by rfl, ?hyq11x⟩) (by assumption) ?restq11x
            case hyq11x =>
              intro w hSw
              (try dsimp only at hSw)
              go_simp
              all_goals (with_reducible rfl)
            try simp only [Act.put, List.setIfInBounds_toArray, List.set_cons_zero, List.set_cons_succ]
            refine wpAnyH_take (i := 11) (oi := { dst := some 65, op := Op.binOp BinOp.gtr 3 (Operand.tmp 63) (Operand.tmp 64) 3, type := 4, pos := "law.go:85", after := #[{ on := 9, ground := Ground.data }, { on := 10, ground := Ground.data }, { on := 5, ground := Ground.guard }], guard := some (5, false) }) (v := ?vq12x) rfl (by kernel_rfl) (by kernel_rfl) (by kernel_rfl) (fun _ _ _ h => h) (Or.inl ⟨by rfl, ?hyq12x⟩) (by assumption) ?restq12x
            case hyq12x =>
              intro w hSw
              (try dsimp only at hSw)
              go_simp
              all_goals (with_reducible rfl)
            try simp only [Act.put, List.setIfInBounds_toArray, List.set_cons_zero, List.set_cons_succ]
            refine wpAnyH_take (i := 12) (oi := { dst := some 66, op := Op.pick (Operand.tmp 59) (Operand.const (Value.bool true)) (Operand.tmp 65), type := 4, pos := "law.go:85", after := #[{ on := 5, ground := Ground.data }, { on := 11, ground := Ground.data }], guard := none }) (v := ?vq13x) rfl (by kernel_rfl) (by kernel_rfl) (by kernel_rfl) (fun _ _ _ h => h) (Or.inl ⟨by rfl, ?hyq13x⟩) (by assumption) ?restq13x
            case hyq13x =>
              intro w hSw
              (try dsimp only at hSw)
              go_simp
              all_goals (with_reducible rfl)
            try simp only [Act.put, List.setIfInBounds_toArray, List.set_cons_zero, List.set_cons_succ]
            refine wpAnyH_take (i := 13) (oi := { dst := some 67, op := Op.move (Operand.tmp 66), type := 4, pos := "law.go:85", after := #[{ on := 12, ground := Ground.data }, { on := 5, ground := Ground.chain }], guard := none }) (v := ?vq14x) rfl (by kernel_rfl) (by kernel_rfl) (by kernel_rfl) (fun _ _ _ h => h) (Or.inl ⟨by rfl, ?hyq14x⟩) (by assumption) ?restq14x
            case hyq14x =>
              intro w hSw
              (try dsimp only at hSw)
              go_simp
              all_goals (with_reducible rfl)
            try simp only [Act.put, List.setIfInBounds_toArray, List.set_cons_zero, List.set_cons_succ]
            refine wpAnyH_take (i := 14) (oi := { dst := some 68, op := Op.move (Operand.tmp 8), type := 36, pos := "law.go:85", after := #[{ on := 13, ground := Ground.guard }], guard := some (13, false) }) (v := ?vq15x) rfl (by kernel_rfl) (by kernel_rfl) (by kernel_rfl) (fun _ _ _ h => h) (Or.inl ⟨by rfl, ?hyq15x⟩) (by assumption) ?restq15x
            case hyq15x =>
              intro w hSw
              (try dsimp only at hSw)
              go_simp
              all_goals (with_reducible rfl)
            try simp only [Act.put, List.setIfInBounds_toArray, List.set_cons_zero, List.set_cons_succ]
            refine wpAnyH_take (i := 15) (oi := { dst := some 69, op := Op.move (Operand.tmp 8), type := 36, pos := "law.go:85", after := #[{ on := 13, ground := Ground.guard }], guard := some (13, false) }) (v := ?vq16x) rfl (by kernel_rfl) (by kernel_rfl) (by kernel_rfl) (fun _ _ _ h => h) (Or.inl ⟨by rfl, ?hyq16x⟩) (by assumption) ?restq16x
            case hyq16x =>
              intro w hSw
              (try dsimp only at hSw)
              go_simp
              all_goals (with_reducible rfl)
            try simp only [Act.put, List.setIfInBounds_toArray, List.set_cons_zero, List.set_cons_succ]
            refine wpAnyH_take (i := 16) (oi := { dst := some 70, op := Op.move (Operand.tmp 9), type := 3, pos := "law.go:85", after := #[{ on := 13, ground := Ground.guard }], guard := some (13, false) }) (v := ?vq17x) rfl (by kernel_rfl) (by kernel_rfl) (by kernel_rfl) (fun _ _ _ h => h) (Or.inl ⟨by rfl, ?hyq17x⟩) (by assumption) ?restq17x
            case hyq17x =>
              intro w hSw
              (try dsimp only at hSw)
              go_simp
              all_goals (with_reducible rfl)
            try simp only [Act.put, List.setIfInBounds_toArray, List.set_cons_zero, List.set_cons_succ]
            refine wpAnyH_take (i := 17) (oi := { dst := some 71, op := Op.indexAddr 36 (Operand.tmp 69) (Operand.tmp 70), type := 0, pos := "law.go:85", after := #[{ on := 15, ground := Ground.data }, { on := 16, ground := Ground.data }, { on := 13, ground := Ground.guard }], guard := some (13, false) }) (v := ?vq18x) rfl (by kernel_rfl) (by kernel_rfl) (by kernel_rfl) (fun _ _ _ h => h) (Or.inl ⟨by rfl, ?hyq18x⟩) (by assumption) ?restq18x
            case hyq18x =>
              intro w hSw
              (try dsimp only at hSw)
              go_simp
              all_goals (with_reducible rfl)
            try simp only [Act.put, List.setIfInBounds_toArray, List.set_cons_zero, List.set_cons_succ]
            refine wpAnyH_take (i := 18) (oi := { dst := some 72, op := Op.load 3 (Operand.tmp 71), type := 3, pos := "law.go:85", after := #[{ on := 17, ground := Ground.data }, { on := 13, ground := Ground.guard }], guard := some (13, false) }) (v := ?vq19x) rfl (by kernel_rfl) (by kernel_rfl) (by kernel_rfl) (fun _ _ _ h => h) (Or.inl ⟨by rfl, ?hyq19x⟩) (by assumption) ?restq19x
            case hyq19x =>
              intro w hSw
              (try dsimp only at hSw)
              go_simp
              all_goals (with_reducible rfl)
            try simp only [Act.put, List.setIfInBounds_toArray, List.set_cons_zero, List.set_cons_succ]
            refine wpAnyH_take (i := 19) (oi := { dst := some 73, op := Op.indexAddr 36 (Operand.tmp 68) (Operand.tmp 72), type := 0, pos := "law.go:85", after := #[{ on := 14, ground := Ground.data }, { on := 18, ground := Ground.data }, { on := 13, ground := Ground.guard }], guard := some (13, false) }) (v := ?vq20x) rfl (by kernel_rfl) (by kernel_rfl) (by kernel_rfl) (fun _ _ _ h => h) (Or.inl ⟨by rfl, ?hyq20x⟩) (by assumption) ?restq20x
            case hyq20x =>
              intro w hSw
              (try dsimp only at hSw)
              go_simp
              all_goals (with_reducible rfl)
            try simp only [Act.put, List.setIfInBounds_toArray, List.set_cons_zero, List.set_cons_succ]
            refine wpAnyH_take (i := 20) (oi := { dst := some 74, op := Op.load 3 (Operand.tmp 73), type := 3, pos := "law.go:85", after := #[{ on := 19, ground := Ground.data }, { on := 13, ground := Ground.guard }], guard := some (13, false) }) (v := ?vq21x) rfl (by kernel_rfl) (by kernel_rfl) (by kernel_rfl) (fun _ _ _ h => h) (Or.inl ⟨by rfl, ?hyq21x⟩) (by assumption) ?restq21x
            case hyq21x =>
              intro w hSw
              (try dsimp only at hSw)
              go_simp
              all_goals (with_reducible rfl)
            try simp only [Act.put, List.setIfInBounds_toArray, List.set_cons_zero, List.set_cons_succ]
            refine wpAnyH_take (i := 21) (oi := { dst := some 75, op := Op.move (Operand.tmp 8), type := 36, pos := "law.go:85", after := #[{ on := 13, ground := Ground.guard }], guard := some (13, false) }) (v := ?vq22x) rfl (by kernel_rfl) (by kernel_rfl) (by kernel_rfl) (fun _ _ _ h => h) (Or.inl ⟨by rfl, ?hyq22x⟩) (by assumption) ?restq22x
            case hyq22x =>
              intro w hSw
              (try dsimp only at hSw)
              go_simp
              all_goals (with_reducible rfl)
            try simp only [Act.put, List.setIfInBounds_toArray, List.set_cons_zero, List.set_cons_succ]
            refine wpAnyH_take (i := 22) (oi := { dst := some 76, op := Op.move (Operand.tmp 9), type := 3, pos := "law.go:85", after := #[{ on := 13, ground := Ground.guard }], guard := some (13, false) }) (v := ?vq23x) rfl (by kernel_rfl) (by kernel_rfl) (by kernel_rfl) (fun _ _ _ h => h) (Or.inl ⟨by rfl, ?hyq23x⟩) (by assumption) ?restq23x
            case hyq23x =>
              intro w hSw
              (try dsimp only at hSw)
              go_simp
              all_goals (with_reducible rfl)
            try simp only [Act.put, List.setIfInBounds_toArray, List.set_cons_zero, List.set_cons_succ]
            refine wpAnyH_take (i := 23) (oi := { dst := some 77, op := Op.indexAddr 36 (Operand.tmp 75) (Operand.tmp 76), type := 0, pos := "law.go:85", after := #[{ on := 21, ground := Ground.data }, { on := 22, ground := Ground.data }, { on := 13, ground := Ground.guard }], guard := some (13, false) }) (v := ?vq24x) rfl (by kernel_rfl) (by kernel_rfl) (by kernel_rfl) (fun _ _ _ h => h) (Or.inl ⟨by rfl, ?hyq24x⟩) (by assumption) ?restq24x
            case hyq24x =>
              intro w hSw
              (try dsimp only at hSw)
              go_simp
              all_goals (with_reducible rfl)
            try simp only [Act.put, List.setIfInBounds_toArray, List.set_cons_zero, List.set_cons_succ]
            refine wpAnyH_take (i := 24) (oi := { dst := some 78, op := Op.load 3 (Operand.tmp 77), type := 3, pos := "law.go:85", after := #[{ on := 23, ground := Ground.data }, { on := 13, ground := Ground.guard }], guard := some (13, false) }) (v := ?vq25x) rfl (by kernel_rfl) (by kernel_rfl) (by kernel_rfl) (fun _ _ _ h => h) (Or.inl ⟨by rfl, ?hyq25x⟩) (by assumption) ?restq25x
            case hyq25x =>
              intro w hSw
              (try dsimp only at hSw)
              go_simp
              all_goals (with_reducible rfl)
            try simp only [Act.put, List.setIfInBounds_toArray, List.set_cons_zero, List.set_cons_succ]
            refine wpAnyH_take (i := 25) (oi := { dst := some 79, op := Op.binOp BinOp.neq 3 (Operand.tmp 74) (Operand.tmp 78) 3, type := 4, pos := "law.go:85", after := #[{ on := 20, ground := Ground.data }, { on := 24, ground := Ground.data }, { on := 13, ground := Ground.guard }], guard := some (13, false) }) (v := ?vq26x) rfl (by kernel_rfl) (by kernel_rfl) (by kernel_rfl) (fun _ _ _ h => h) (Or.inl ⟨by rfl, ?hyq26x⟩) (by assumption) ?restq26x
            case hyq26x =>
              intro w hSw
              (try dsimp only at hSw)
              go_simp
              all_goals (with_reducible rfl)
            try simp only [Act.put, List.setIfInBounds_toArray, List.set_cons_zero, List.set_cons_succ]
            refine wpAnyH_take (i := 26) (oi := { dst := some 80, op := Op.pick (Operand.tmp 67) (Operand.const (Value.bool true)) (Operand.tmp 79), type := 4, pos := "law.go:85", after := #[{ on := 13, ground := Ground.data }, { on := 25, ground := Ground.data }], guard := none }) (v := ?vq27x) rfl (by kernel_rfl) (by kernel_rfl) (by kernel_rfl) (fun _ _ _ h => h) (Or.inl ⟨by rfl, ?hyq27x⟩) (by assumption) ?restq27x
            case hyq27x =>
              intro w hSw
              (try dsimp only at hSw)
              go_simp
              all_goals (with_reducible rfl)
            try simp only [Act.put, List.setIfInBounds_toArray, List.set_cons_zero, List.set_cons_succ]
            refine wpAnyH_done (by kernel_rfl) ?_ _
            clear c0 c1
            go_wp2
            go_roundw
            case rel => exact ⟨v + 1, l + 1, by omega, by omega, by go_num, by go_num, HC2, Lib.hid HBR.out.drew⟩
            case measure => simp [intOf]; omega
          · have g3 : ¬ (x : Int) < (v : Int) := by omega
            have HC2 : Hid (l = cnt r (v + 1)) := by show _ = _; rw [HC1.out, if_neg hxv]; rfl
            clear hxv HC1 h1
            go_wp2
            refine wp_region_held_drew (S := fun w' => w'.cell? ⟨b, off + v, none⟩ = some (.int .i64 (x : Int)) ∧ w'.cell? ⟨b, off + x, none⟩ = some (.int .i64 (x : Int))) (by kernel_rfl) ?_ (fun hHeld => ?_)
            · (try dsimp only)
              go_keep
            refine wpAnyH_take (i := 0) (oi := { dst := some 54, op := Op.move (Operand.tmp 8), type := 36, pos := "law.go:85", after := #[], guard := none }) (v := ?vq28x) rfl (by kernel_rfl) (by kernel_rfl) (by kernel_rfl) (fun _ _ _ h => h) (Or.inl ⟨by rfl, ?hyq28x⟩) (by assumption) ?restq28x
            case hyq28x =>
              intro w hSw
              (try dsimp only at hSw)
              go_simp
              all_goals (with_reducible rfl)
            try simp only [Act.put, List.setIfInBounds_toArray, List.set_cons_zero, List.set_cons_succ]
            refine wpAnyH_take (i := 1) (oi := { dst := some 55, op := Op.move (Operand.tmp 9), type := 3, pos := "law.go:85", after := #[], guard := none }) (v := ?vq29x) rfl (by kernel_rfl) (by kernel_rfl) (by kernel_rfl) (fun _ _ _ h => h) (Or.inl ⟨by rfl, ?hyq29x⟩) (by assumption) ?restq29x
            case hyq29x =>
              intro w hSw
              (try dsimp only at hSw)
              go_simp
              all_goals (with_reducible rfl)
            try simp only [Act.put, List.setIfInBounds_toArray, List.set_cons_zero, List.set_cons_succ]
            refine wpAnyH_take (i := 2) (oi := { dst := some 56, op := Op.indexAddr 36 (Operand.tmp 54) (Operand.tmp 55), type := 0, pos := "law.go:85", after := #[{ on := 0, ground := Ground.data }, { on := 1, ground := Ground.data }], guard := none }) (v := ?vq30x) rfl (by kernel_rfl) (by kernel_rfl) (by kernel_rfl) (fun _ _ _ h => h) (Or.inl ⟨by rfl, ?hyq30x⟩) (by assumption) ?restq30x
            case hyq30x =>
              intro w hSw
              (try dsimp only at hSw)
              go_simp
              all_goals (with_reducible rfl)
            try simp only [Act.put, List.setIfInBounds_toArray, List.set_cons_zero, List.set_cons_succ]
            refine wpAnyH_take (i := 3) (oi := { dst := some 57, op := Op.load 3 (Operand.tmp 56), type := 3, pos := "law.go:85", after := #[{ on := 2, ground := Ground.data }], guard := none }) (v := ?vq31x) rfl (by kernel_rfl) (by kernel_rfl) (by kernel_rfl) (fun _ _ _ h => h) (Or.inl ⟨by rfl, ?hyq31x⟩) (by assumption) ?restq31x
            case hyq31x =>
              intro w hSw
              (try dsimp only at hSw)
              go_simp
              all_goals (with_reducible rfl)
            try simp only [Act.put, List.setIfInBounds_toArray, List.set_cons_zero, List.set_cons_succ]
            refine wpAnyH_take (i := 4) (oi := { dst := some 58, op := Op.binOp BinOp.lss 3 (Operand.tmp 57) (Operand.const (Value.int IntKind.i64 0)) 3, type := 4, pos := "law.go:85", after := #[{ on := 3, ground := Ground.data }], guard := none }) (v := ?vq32x) rfl (by kernel_rfl) (by kernel_rfl) (by kernel_rfl) (fun _ _ _ h => h) (Or.inl ⟨by rfl, ?hyq32x⟩) (by assumption) ?restq32x
            case hyq32x =>
              intro w hSw
              (try dsimp only at hSw)
              go_simp
              all_goals (with_reducible rfl)
            try simp only [Act.put, List.setIfInBounds_toArray, List.set_cons_zero, List.set_cons_succ]
            refine wpAnyH_take (i := 5) (oi := { dst := some 59, op := Op.move (Operand.tmp 58), type := 4, pos := "law.go:85", after := #[{ on := 4, ground := Ground.data }], guard := none }) (v := ?vq33x) rfl (by kernel_rfl) (by kernel_rfl) (by kernel_rfl) (fun _ _ _ h => h) (Or.inl ⟨by rfl, ?hyq33x⟩) (by assumption) ?restq33x
            case hyq33x =>
              intro w hSw
              (try dsimp only at hSw)
              go_simp
              all_goals (with_reducible rfl)
            try simp only [Act.put, List.setIfInBounds_toArray, List.set_cons_zero, List.set_cons_succ]
            refine wpAnyH_take (i := 6) (oi := { dst := some 60, op := Op.move (Operand.tmp 8), type := 36, pos := "law.go:85", after := #[{ on := 5, ground := Ground.guard }], guard := some (5, false) }) (v := ?vq34x) rfl (by kernel_rfl) (by kernel_rfl) (by kernel_rfl) (fun _ _ _ h => h) (Or.inl ⟨by rfl, ?hyq34x⟩) (by assumption) ?restq34x
            case hyq34x =>
              intro w hSw
              (try dsimp only at hSw)
              go_simp
              all_goals (with_reducible rfl)
            try simp only [Act.put, List.setIfInBounds_toArray, List.set_cons_zero, List.set_cons_succ]
            refine wpAnyH_take (i := 7) (oi := { dst := some 61, op := Op.move (Operand.tmp 9), type := 3, pos := "law.go:85", after := #[{ on := 5, ground := Ground.guard }], guard := some (5, false) }) (v := ?vq35x) rfl (by kernel_rfl) (by kernel_rfl) (by kernel_rfl) (fun _ _ _ h => h) (Or.inl ⟨by rfl, ?hyq35x⟩) (by assumption) ?restq35x
            case hyq35x =>
              intro w hSw
              (try dsimp only at hSw)
              go_simp
              all_goals (with_reducible rfl)
            try simp only [Act.put, List.setIfInBounds_toArray, List.set_cons_zero, List.set_cons_succ]
            refine wpAnyH_take (i := 8) (oi := { dst := some 62, op := Op.indexAddr 36 (Operand.tmp 60) (Operand.tmp 61), type := 0, pos := "law.go:85", after := #[{ on := 6, ground := Ground.data }, { on := 7, ground := Ground.data }, { on := 5, ground := Ground.guard }], guard := some (5, false) }) (v := ?vq36x) rfl (by kernel_rfl) (by kernel_rfl) (by kernel_rfl) (fun _ _ _ h => h) (Or.inl ⟨by rfl, ?hyq36x⟩) (by assumption) ?restq36x
            case hyq36x =>
              intro w hSw
              (try dsimp only at hSw)
              go_simp
              all_goals (with_reducible rfl)
            try simp only [Act.put, List.setIfInBounds_toArray, List.set_cons_zero, List.set_cons_succ]
            refine wpAnyH_take (i := 9) (oi := { dst := some 63, op := Op.load 3 (Operand.tmp 62), type := 3, pos := "law.go:85", after := #[{ on := 8, ground := Ground.data }, { on := 5, ground := Ground.guard }], guard := some (5, false) }) (v := ?vq37x) rfl (by kernel_rfl) (by kernel_rfl) (by kernel_rfl) (fun _ _ _ h => h) (Or.inl ⟨by rfl, ?hyq37x⟩) (by assumption) ?restq37x
            case hyq37x =>
              intro w hSw
              (try dsimp only at hSw)
              go_simp
              all_goals (with_reducible rfl)
            try simp only [Act.put, List.setIfInBounds_toArray, List.set_cons_zero, List.set_cons_succ]
            refine wpAnyH_take (i := 10) (oi := { dst := some 64, op := Op.move (Operand.tmp 9), type := 3, pos := "law.go:85", after := #[{ on := 5, ground := Ground.guard }], guard := some (5, false) }) (v := ?vq38x) rfl (by kernel_rfl) (by kernel_rfl) (by kernel_rfl) (fun _ _ _ h => h) (Or.inl ⟨by rfl, ?hyq38x⟩) (by assumption) ?restq38x
            case hyq38x =>
              intro w hSw
              (try dsimp only at hSw)
              go_simp
              all_goals (with_reducible rfl)
            try simp only [Act.put, List.setIfInBounds_toArray, List.set_cons_zero, List.set_cons_succ]
            refine wpAnyH_take (i := 11) (oi := { dst := some 65, op := Op.binOp BinOp.gtr 3 (Operand.tmp 63) (Operand.tmp 64) 3, type := 4, pos := "law.go:85", after := #[{ on := 9, ground := Ground.data }, { on := 10, ground := Ground.data }, { on := 5, ground := Ground.guard }], guard := some (5, false) }) (v := ?vq39x) rfl (by kernel_rfl) (by kernel_rfl) (by kernel_rfl) (fun _ _ _ h => h) (Or.inl ⟨by rfl, ?hyq39x⟩) (by assumption) ?restq39x
            case hyq39x =>
              intro w hSw
              (try dsimp only at hSw)
              go_simp
              all_goals (with_reducible rfl)
            try simp only [Act.put, List.setIfInBounds_toArray, List.set_cons_zero, List.set_cons_succ]
            refine wpAnyH_take (i := 12) (oi := { dst := some 66, op := Op.pick (Operand.tmp 59) (Operand.const (Value.bool true)) (Operand.tmp 65), type := 4, pos := "law.go:85", after := #[{ on := 5, ground := Ground.data }, { on := 11, ground := Ground.data }], guard := none }) (v := ?vq40x) rfl (by kernel_rfl) (by kernel_rfl) (by kernel_rfl) (fun _ _ _ h => h) (Or.inl ⟨by rfl, ?hyq40x⟩) (by assumption) ?restq40x
            case hyq40x =>
              intro w hSw
              (try dsimp only at hSw)
              go_simp
              all_goals (with_reducible rfl)
            try simp only [Act.put, List.setIfInBounds_toArray, List.set_cons_zero, List.set_cons_succ]
            refine wpAnyH_take (i := 13) (oi := { dst := some 67, op := Op.move (Operand.tmp 66), type := 4, pos := "law.go:85", after := #[{ on := 12, ground := Ground.data }, { on := 5, ground := Ground.chain }], guard := none }) (v := ?vq41x) rfl (by kernel_rfl) (by kernel_rfl) (by kernel_rfl) (fun _ _ _ h => h) (Or.inl ⟨by rfl, ?hyq41x⟩) (by assumption) ?restq41x
            case hyq41x =>
              intro w hSw
              (try dsimp only at hSw)
              go_simp
              all_goals (with_reducible rfl)
            try simp only [Act.put, List.setIfInBounds_toArray, List.set_cons_zero, List.set_cons_succ]
            refine wpAnyH_take (i := 14) (oi := { dst := some 68, op := Op.move (Operand.tmp 8), type := 36, pos := "law.go:85", after := #[{ on := 13, ground := Ground.guard }], guard := some (13, false) }) (v := ?vq42x) rfl (by kernel_rfl) (by kernel_rfl) (by kernel_rfl) (fun _ _ _ h => h) (Or.inl ⟨by rfl, ?hyq42x⟩) (by assumption) ?restq42x
            case hyq42x =>
              intro w hSw
              (try dsimp only at hSw)
              go_simp
              all_goals (with_reducible rfl)
            try simp only [Act.put, List.setIfInBounds_toArray, List.set_cons_zero, List.set_cons_succ]
            refine wpAnyH_take (i := 15) (oi := { dst := some 69, op := Op.move (Operand.tmp 8), type := 36, pos := "law.go:85", after := #[{ on := 13, ground := Ground.guard }], guard := some (13, false) }) (v := ?vq43x) rfl (by kernel_rfl) (by kernel_rfl) (by kernel_rfl) (fun _ _ _ h => h) (Or.inl ⟨by rfl, ?hyq43x⟩) (by assumption) ?restq43x
            case hyq43x =>
              intro w hSw
              (try dsimp only at hSw)
              go_simp
              all_goals (with_reducible rfl)
            try simp only [Act.put, List.setIfInBounds_toArray, List.set_cons_zero, List.set_cons_succ]
            refine wpAnyH_take (i := 16) (oi := { dst := some 70, op := Op.move (Operand.tmp 9), type := 3, pos := "law.go:85", after := #[{ on := 13, ground := Ground.guard }], guard := some (13, false) }) (v := ?vq44x) rfl (by kernel_rfl) (by kernel_rfl) (by kernel_rfl) (fun _ _ _ h => h) (Or.inl ⟨by rfl, ?hyq44x⟩) (by assumption) ?restq44x
            case hyq44x =>
              intro w hSw
              (try dsimp only at hSw)
              go_simp
              all_goals (with_reducible rfl)
            try simp only [Act.put, List.setIfInBounds_toArray, List.set_cons_zero, List.set_cons_succ]
            refine wpAnyH_take (i := 17) (oi := { dst := some 71, op := Op.indexAddr 36 (Operand.tmp 69) (Operand.tmp 70), type := 0, pos := "law.go:85", after := #[{ on := 15, ground := Ground.data }, { on := 16, ground := Ground.data }, { on := 13, ground := Ground.guard }], guard := some (13, false) }) (v := ?vq45x) rfl (by kernel_rfl) (by kernel_rfl) (by kernel_rfl) (fun _ _ _ h => h) (Or.inl ⟨by rfl, ?hyq45x⟩) (by assumption) ?restq45x
            case hyq45x =>
              intro w hSw
              (try dsimp only at hSw)
              go_simp
              all_goals (with_reducible rfl)
            try simp only [Act.put, List.setIfInBounds_toArray, List.set_cons_zero, List.set_cons_succ]
            refine wpAnyH_take (i := 18) (oi := { dst := some 72, op := Op.load 3 (Operand.tmp 71), type := 3, pos := "law.go:85", after := #[{ on := 17, ground := Ground.data }, { on := 13, ground := Ground.guard }], guard := some (13, false) }) (v := ?vq46x) rfl (by kernel_rfl) (by kernel_rfl) (by kernel_rfl) (fun _ _ _ h => h) (Or.inl ⟨by rfl, ?hyq46x⟩) (by assumption) ?restq46x
            case hyq46x =>
              intro w hSw
              (try dsimp only at hSw)
              go_simp
              all_goals (with_reducible rfl)
            try simp only [Act.put, List.setIfInBounds_toArray, List.set_cons_zero, List.set_cons_succ]
            refine wpAnyH_take (i := 19) (oi := { dst := some 73, op := Op.indexAddr 36 (Operand.tmp 68) (Operand.tmp 72), type := 0, pos := "law.go:85", after := #[{ on := 14, ground := Ground.data }, { on := 18, ground := Ground.data }, { on := 13, ground := Ground.guard }], guard := some (13, false) }) (v := ?vq47x) rfl (by kernel_rfl) (by kernel_rfl) (by kernel_rfl) (fun _ _ _ h => h) (Or.inl ⟨by rfl, ?hyq47x⟩) (by assumption) ?restq47x
            case hyq47x =>
              intro w hSw
              (try dsimp only at hSw)
              go_simp
              all_goals (with_reducible rfl)
            try simp only [Act.put, List.setIfInBounds_toArray, List.set_cons_zero, List.set_cons_succ]
            refine wpAnyH_take (i := 20) (oi := { dst := some 74, op := Op.load 3 (Operand.tmp 73), type := 3, pos := "law.go:85", after := #[{ on := 19, ground := Ground.data }, { on := 13, ground := Ground.guard }], guard := some (13, false) }) (v := ?vq48x) rfl (by kernel_rfl) (by kernel_rfl) (by kernel_rfl) (fun _ _ _ h => h) (Or.inl ⟨by rfl, ?hyq48x⟩) (by assumption) ?restq48x
            case hyq48x =>
              intro w hSw
              (try dsimp only at hSw)
              go_simp
              all_goals (with_reducible rfl)
            try simp only [Act.put, List.setIfInBounds_toArray, List.set_cons_zero, List.set_cons_succ]
            refine wpAnyH_take (i := 21) (oi := { dst := some 75, op := Op.move (Operand.tmp 8), type := 36, pos := "law.go:85", after := #[{ on := 13, ground := Ground.guard }], guard := some (13, false) }) (v := ?vq49x) rfl (by kernel_rfl) (by kernel_rfl) (by kernel_rfl) (fun _ _ _ h => h) (Or.inl ⟨by rfl, ?hyq49x⟩) (by assumption) ?restq49x
            case hyq49x =>
              intro w hSw
              (try dsimp only at hSw)
              go_simp
              all_goals (with_reducible rfl)
            try simp only [Act.put, List.setIfInBounds_toArray, List.set_cons_zero, List.set_cons_succ]
            refine wpAnyH_take (i := 22) (oi := { dst := some 76, op := Op.move (Operand.tmp 9), type := 3, pos := "law.go:85", after := #[{ on := 13, ground := Ground.guard }], guard := some (13, false) }) (v := ?vq50x) rfl (by kernel_rfl) (by kernel_rfl) (by kernel_rfl) (fun _ _ _ h => h) (Or.inl ⟨by rfl, ?hyq50x⟩) (by assumption) ?restq50x
            case hyq50x =>
              intro w hSw
              (try dsimp only at hSw)
              go_simp
              all_goals (with_reducible rfl)
            try simp only [Act.put, List.setIfInBounds_toArray, List.set_cons_zero, List.set_cons_succ]
            refine wpAnyH_take (i := 23) (oi := { dst := some 77, op := Op.indexAddr 36 (Operand.tmp 75) (Operand.tmp 76), type := 0, pos := "law.go:85", after := #[{ on := 21, ground := Ground.data }, { on := 22, ground := Ground.data }, { on := 13, ground := Ground.guard }], guard := some (13, false) }) (v := ?vq51x) rfl (by kernel_rfl) (by kernel_rfl) (by kernel_rfl) (fun _ _ _ h => h) (Or.inl ⟨by rfl, ?hyq51x⟩) (by assumption) ?restq51x
            case hyq51x =>
              intro w hSw
              (try dsimp only at hSw)
              go_simp
              all_goals (with_reducible rfl)
            try simp only [Act.put, List.setIfInBounds_toArray, List.set_cons_zero, List.set_cons_succ]
            refine wpAnyH_take (i := 24) (oi := { dst := some 78, op := Op.load 3 (Operand.tmp 77), type := 3, pos := "law.go:85", after := #[{ on := 23, ground := Ground.data }, { on := 13, ground := Ground.guard }], guard := some (13, false) }) (v := ?vq52x) rfl (by kernel_rfl) (by kernel_rfl) (by kernel_rfl) (fun _ _ _ h => h) (Or.inl ⟨by rfl, ?hyq52x⟩) (by assumption) ?restq52x
            case hyq52x =>
              intro w hSw
              (try dsimp only at hSw)
              go_simp
              all_goals (with_reducible rfl)
            try simp only [Act.put, List.setIfInBounds_toArray, List.set_cons_zero, List.set_cons_succ]
            refine wpAnyH_take (i := 25) (oi := { dst := some 79, op := Op.binOp BinOp.neq 3 (Operand.tmp 74) (Operand.tmp 78) 3, type := 4, pos := "law.go:85", after := #[{ on := 20, ground := Ground.data }, { on := 24, ground := Ground.data }, { on := 13, ground := Ground.guard }], guard := some (13, false) }) (v := ?vq53x) rfl (by kernel_rfl) (by kernel_rfl) (by kernel_rfl) (fun _ _ _ h => h) (Or.inl ⟨by rfl, ?hyq53x⟩) (by assumption) ?restq53x
            case hyq53x =>
              intro w hSw
              (try dsimp only at hSw)
              go_simp
              all_goals (with_reducible rfl)
            try simp only [Act.put, List.setIfInBounds_toArray, List.set_cons_zero, List.set_cons_succ]
            refine wpAnyH_take (i := 26) (oi := { dst := some 80, op := Op.pick (Operand.tmp 67) (Operand.const (Value.bool true)) (Operand.tmp 79), type := 4, pos := "law.go:85", after := #[{ on := 13, ground := Ground.data }, { on := 25, ground := Ground.data }], guard := none }) (v := ?vq54x) rfl (by kernel_rfl) (by kernel_rfl) (by kernel_rfl) (fun _ _ _ h => h) (Or.inl ⟨by rfl, ?hyq54x⟩) (by assumption) ?restq54x
            case hyq54x =>
              intro w hSw
              (try dsimp only at hSw)
              go_simp
              all_goals (with_reducible rfl)
            try simp only [Act.put, List.setIfInBounds_toArray, List.set_cons_zero, List.set_cons_succ]
            refine wpAnyH_done (by kernel_rfl) ?_ _
            clear c0 c1
            go_wp2
            go_roundw
            case rel => exact ⟨v + 1, l, by omega, by omega, by go_num, rfl, HC2, Lib.hid HBR.out.drew⟩
            case measure => simp [intOf]; omega
        · have e : v = N := by omega
          have HT2 : Hid (l + failN N cs = q) := by
            have h1 := HTOT.out
            have h2 := HQ.out
            rw [e] at h2
            show _ = _
            omega
          have HB3 : Hid (Below w1.heap.size w1 wr) := H2.out.2.trans (HBR.out.mono H2.out.2.size)
          have v1 : ¬ (v : Int) < (N : Int) := by omega
          clear e HQ HTOT HRT H2 HBR
          go_wp2_with fail
          refine (Forest_c (N : Int) N HN.out A m c ps cs w1 wr HV.out HC.out HB3.out).mono ?_
          rintro e w4 ⟨⟨r1, rfl, hr1⟩, hb4⟩
          have H4 : Hid (Below w.heap.size w w4) := HB1.out.trans ((HB3.out.trans (hb4.mono HB3.out.size)).mono HB1.out.size)
          have g4 : (l : Int) ≤ (q : Int) := by have := HT2.out; omega
          clear hb4
          cases r1 with
          | true =>
            have hz : failN N cs = 0 := hr1.1 rfl
            have g5 : l = q := by have := HT2.out; omega
            clear hr1 hz HT2
            subst g5
            have g6 : ((l : Int) == (l : Int)) = true := by simp
            go_wp2_with fail
            refine (known11_c _).mono ?_
            rintro e w5 ⟨rfl, hb5⟩
            have H5 : Hid (Below w.heap.size w w5) := H4.out.trans (hb5.mono H4.out.size)
            clear hb5
            go_wp2
            go_ret
            exact ⟨rfl, H5.out⟩
          | false =>
            have hz : failN N cs ≠ 0 := fun h => by have := hr1.2 h; cases this
            have g6 : ((q : Int) == (l : Int)) = false := by rw [beq_eq_false_iff_ne]; have := HT2.out; omega
            clear hr1 hz HT2
            go_wp2_with fail
            refine (known11_c _).mono ?_
            rintro e w5 ⟨rfl, hb5⟩
            have H5 : Hid (Below w.heap.size w w5) := H4.out.trans (hb5.mono H4.out.size)
            clear hb5
            go_wp2
            go_ret
            exact ⟨rfl, H5.out⟩
end Go.Proofs.Ytkfkjdpkkagjgaa
