/-
  GraphFewer: fewer constraints of a forest are a forest; the first that closes a ring is the first of any that stand behind it, too.
-/
import Derived.Test.YtkfkjdpkkagjgaaGcon
import Derived.Deep.Cut
namespace Go.Proofs.Ytkfkjdpkkagjgaa
set_option maxRecDepth 20000
open Go.RowKit

theorem and1023 (i : Int) : ∃ x : Nat, x < 1024 ∧ bits BinOp.and IntKind.i64 i 1023 = (x : Int) := by
  have h : (BitVec.ofInt 64 i &&& BitVec.ofInt 64 1023).toNat < 1024 := by
    rw [BitVec.toNat_and]; exact Nat.and_lt_two_pow (n := 10) _ (by decide)
  refine ⟨(BitVec.ofInt 64 i &&& BitVec.ofInt 64 1023).toNat, h, ?_⟩
  show IntKind.i64.wrap (((BitVec.ofInt 64 i &&& BitVec.ofInt 64 1023).toNat : Nat) : Int) = _
  generalize (BitVec.ofInt 64 i &&& BitVec.ofInt 64 1023).toNat = x at *
  rw [IntKind.wrap_i64]; omega
set_option maxHeartbeats 12800000 in
theorem GraphFewer_any (A A' : Option Addr) (m c m' c' : Nat) (n i : Int) (ps qs : List (Cv × List Tv)) (w : World) (hk : Kons w A m (ps.map (·.1))) (hf : ∀ x ∈ ps, Raw w x.1 x.2) (hm : m ≤ 1048576) (hc : m ≤ c)
    (hk' : Kons w A' m' (qs.map (·.1))) (hf' : ∀ x ∈ qs, Raw w x.1 x.2) (hm' : m' ≤ 1048576) (hi : 0 ≤ i ∧ i ≤ 9223372036854775807 ∨ i < 0 ∧ -9223372036854775808 ≤ i) :
    Calls Try.prog 8 #[.slice A m c, .slice A' m' c', .int .i64 n, .int .i64 i] w fun e w' => e = .returned (.bool true) ∧ Below w.heap.size w w' := by
  have HK := Lib.hid (And.intro hk hk')
  have HF := Lib.hid (And.intro hf hf')
  have HI := Lib.hid hi
  clear hk hf hk' hf' hi
  go_enter Try.func8, Try.ntmps8
  go_wp2_with fail
  refine (heavyH_c A m c ps _ HK.out.1 (fun x hx => (HF.out.1 x hx).fit) hm).mono ?_
  rintro e w1 ⟨r, rfl, hr, hb⟩
  have HR := Lib.hid hr
  have HB1 := Lib.hid hb
  clear hr hb
  cases r with
  | true =>
    go_wp2
    go_ret
    exact ⟨rfl, HB1.out⟩
  | false =>
  go_wp2_with fail
  refine (heavyH_c A' m' c' qs _ (HK.out.2.below HB1.out) (fun x hx => ((HF.out.2 x hx).below HB1.out).fit) hm').mono ?_
  rintro e w2 ⟨r, rfl, hr', hb⟩
  have HR' := Lib.hid hr'
  have HB2 : Hid (Below w.heap.size w w2) := HB1.out.trans (hb.mono HB1.out.size)
  clear hr' hb
  cases r with
  | true =>
    go_wp2
    go_ret
    exact ⟨rfl, HB2.out⟩
  | false =>
  obtain ⟨N, hN⟩ : ∃ N, bndN n = N := ⟨_, rfl⟩
  have HN := Lib.hid hN
  obtain ⟨hm75, hg⟩ := gns_of HK.out.1 HF.out.1 (HR.out (by trivial))
  obtain ⟨hm75', hg'⟩ := gns_of HK.out.2 HF.out.2 (HR'.out rfl)
  have HV := Lib.hid (And.intro (hg.below HB2.out) (hg'.below HB2.out))
  clear hg hg' hm hm' HF HR HR' HK HB1 hN
  have m0 : (0 : Int) ≤ (m : Int) := by omega
  have m2 : (m : Int) ≤ 75 := by omega
  have m0' : (0 : Int) ≤ (m' : Int) := by omega
  have m2' : (m' : Int) ≤ 75 := by omega
  obtain ⟨cs, hcs⟩ : ∃ cs, csOf w2 N ps = cs := ⟨_, rfl⟩
  obtain ⟨ds, hds⟩ : ∃ ds, csOf w2 N qs = ds := ⟨_, rfl⟩
  have HC := Lib.hid (And.intro hcs hds)
  clear hcs hds
  go_wp2_with fail
  refine (First_c n N HN.out A m c ps cs w2 w2 HV.out.1 HC.out.1 (Below.refl _ _)).mono ?_
  rintro e w3 ⟨k, rfl, hk, hb3⟩
  have H3 := Lib.hid (And.intro hk hb3)
  clear hk hb3
  go_wp2_with (at_builtin; refine wpc_appends rfl _ _ rfl rfl rfl (lo := w3.heap.size) (l := []) (n := 0) (OwnC.made0 w3) ((HV.out.1.kons.below H3.out.2).below ((Below.refl _ _).alloc (Nat.le_refl _) _)) (by omega) (by simp) ?_)
  intro A2 c2 w4 hown hgrow
  have hb4 : Below w3.heap.size w3 w4 := ((Below.refl _ w3).alloc (Nat.le_refl _) _).grown hgrow (by simp) (by intro k hk; simp at hk; omega)
  have H4 : Hid (OwnC w4 w3.heap.size A2 c2 m (ps.map (·.1)) ∧ Below w3.heap.size w3 w4) := ⟨hown, hb4⟩
  clear hown hgrow hb4
  go_wp2_with (at_builtin; refine wpc_appends rfl _ _ rfl rfl rfl (lo := w3.heap.size) H4.out.1 ((HV.out.2.kons.below H3.out.2).below H4.out.2) (by omega) H4.out.2.size ?_)
  intro A3 c3 w5 hown hgrow
  have H5 : Hid (Gns w5 A3 (m + m') (ps ++ qs) ∧ Below w2.heap.size w2 w5) := by
    have hb5 : Below w3.heap.size w3 w5 := far_grown H4.out.2 H4.out.1 hgrow
    have hb25 := H3.out.2.trans (hb5.mono H3.out.2.size)
    refine ⟨⟨by rw [List.map_append]; exact hown.kons, fun x hx => ?_, by omega⟩, hb25⟩
    rcases List.mem_append.1 hx with hx | hx
    · exact (HV.out.1.each x hx).below hb25
    · exact (HV.out.2.each x hx).below hb25
  have HCA : Hid (csOf w5 N (ps ++ qs) = cs ++ ds) := by
    have hb := H5.out.2
    show List.map _ _ = _
    rw [List.map_append]
    show csOf w5 N ps ++ csOf w5 N qs = _
    rw [csOf_turn (fun x hx => HV.out.1.each x hx) hb, csOf_turn (fun x hx => HV.out.2.each x hx) hb, HC.out.1, HC.out.2]
  have HKF : Hid (IsFst N cs k) := H3.out.1
  have HB5 : Hid (Below w.heap.size w w5) := HB2.out.trans (H5.out.2.mono HB2.out.size)
  have HCW : Hid (csOf w5 N ps = cs) := by show _ = _; rw [csOf_turn (fun x hx => HV.out.1.each x hx) H5.out.2, HC.out.1]
  have HVW : Hid (Gns w5 A m ps) := HV.out.1.below H5.out.2
  have HBN : Hid (bnd N cs) := HC.out.1 ▸ csOf_bnd w2 N ps
  clear hown hgrow H3 H4 HB2 HC HV
  have HCL : Hid ((cs.length : Int) = (m : Int)) := by show _ = _; rw [← HCW.out, csOf, List.length_map, HVW.out.len]
  rcases HKF.out with ⟨hk1, hno⟩ | ⟨kn, hkn, hlt, hrg, hno⟩
  · subst hk1
    have HFZ : Hid (failN N cs = 0) := (HKF.out.forest).1 (by omega)
    clear hno
    rcases Nat.eq_zero_or_pos m with h0 | h0
    · have HBX : Hid (Below w5.heap.size w5 w5) := Below.refl _ _
      subst h0
      rw [Nat.zero_add] at H5
      try simp only [Nat.zero_add]
      go_wp2_with fail
      refine (First_c n N HN.out A3 m' c3 (ps ++ qs) (cs ++ ds) w5 w5 H5.out.1 HCA.out HBX.out).mono ?_
      rintro e wf ⟨x, rfl, hx, hbf⟩
      have HX : Hid (x < 0 ∨ (0 : Int) ≤ x) := by
        have := (HKF.out.more hx).2 (by omega)
        rw [HCL.out] at this
        exact this
      have HBF : Hid (Below w5.heap.size w5 wf) := HBX.out.trans (hbf.mono HBX.out.size)
      clear hx hbf
      by_cases hx0 : x < 0
      · go_wp2_with fail
        refine (known11_c wf).mono ?_
        rintro e wz ⟨rfl, hbz⟩
        have HBZ : Hid (Below w.heap.size w wz) := HB5.out.trans ((HBF.out.trans (hbz.mono HBF.out.size)).mono HB5.out.size)
        clear hbz
        go_wp2
        go_ret
        exact ⟨rfl, HBZ.out⟩
      · have hx1 : (0 : Int) ≤ x := HX.out.resolve_left hx0
        go_wp2_with fail
        refine (known11_c wf).mono ?_
        rintro e wz ⟨rfl, hbz⟩
        have HBZ : Hid (Below w.heap.size w wz) := HB5.out.trans ((HBF.out.trans (hbz.mono HBF.out.size)).mono HB5.out.size)
        clear hbz
        go_wp2
        go_ret
        exact ⟨rfl, HBZ.out⟩
    · have h0' : (0 : Int) < (m : Int) := by omega
      obtain ⟨b, off, hA, _⟩ := HVW.out.kons.mem h0
      subst hA
      obtain ⟨x0, hx0, hxe⟩ := and1023 i
      obtain ⟨J, hJ⟩ : ∃ J, J = x0 % m := ⟨_, rfl⟩
      have e8 : (bits BinOp.and IntKind.i64 i 1023).tmod (m : Int) = (J : Int) := by
        rw [hxe, hJ]; rw [Int.tmod_eq_emod_of_nonneg (by omega)]; rfl
      have hJm : J < m := by rw [hJ]; exact Nat.mod_lt _ h0
      have j0 : (0 : Int) ≤ (J : Int) := by omega
      have j1 : (J : Int) < (m : Int) := by omega
      have j2 : (J : Int) ≤ (c : Int) := by omega
      have j3 : (J : Int) + 1 ≤ (m : Int) := by omega
      have j4 : (0 : Int) ≤ (J : Int) + 1 := by omega
      have w8 : IntKind.i64.wrap ((J : Int) + 1) = (J : Int) + 1 := by rw [IntKind.wrap_i64]; omega
      clear hx0 hxe hJ
      have HKD : Hid (Kons w5 (if c = J + 1 then some ⟨b, off, none⟩ else some ⟨b, off + (J + 1) * 5, none⟩) (m - (J + 1)) ((ps.map (·.1)).drop (J + 1))) := by
        have hd := HVW.out.kons.drop (k := J + 1) (by omega)
        by_cases h : c = J + 1
        · have e : m - (J + 1) = 0 := by omega
          rw [e] at hd
          rw [if_pos h, e]
          exact ⟨hd.len, fun h9 => absurd h9 (by omega)⟩
        · rw [if_neg h]; exact hd
      go_upto_region 9 with fail
      by_cases hcJ : c = J + 1
      · have hcT : (c = J + 1) = True := eq_true hcJ
        rw [if_pos hcJ] at HKD
        clear hcJ
        refine wp_region_held_drew (S := fun _ => True) (by kernel_rfl) ?_ (fun hHeld => ?_)
        · (try dsimp only)
          try go_keep
        refine wpAnyH_take (i := 1) (oi := { dst := some 54, op := Op.move (Operand.tmp 0), type := 22, pos := "more.go:20", after := #[], guard := none }) (v := ?vq1x) rfl (by kernel_rfl) (by kernel_rfl) (by kernel_rfl) (fun _ _ _ h => h) (Or.inl ⟨by rfl, ?hyq1x⟩) (by assumption) ?restq1x
        case hyq1x =>
          intro w hSw
          (try dsimp only at hSw)
          go_simp
          all_goals (with_reducible rfl)
        try simp only [Act.put, List.setIfInBounds_toArray, List.set_cons_zero, List.set_cons_succ]
        refine wpAnyH_take (i := 2) (oi := { dst := some 55, op := Op.move (Operand.tmp 11), type := 3, pos := "more.go:20", after := #[], guard := none }) (v := ?vq2x) rfl (by kernel_rfl) (by kernel_rfl) (by kernel_rfl) (fun _ _ _ h => h) (Or.inl ⟨by rfl, ?hyq2x⟩) (by assumption) ?restq2x
        case hyq2x =>
          intro w hSw
          (try dsimp only at hSw)
          go_simp
          all_goals (with_reducible rfl)
        try simp only [Act.put, List.setIfInBounds_toArray, List.set_cons_zero, List.set_cons_succ]
        refine wpAnyH_take (i := 3) (oi := { dst := some 56, op := Op.slice 22 (Operand.tmp 54) none (some (Operand.tmp 55)) none, type := 22, pos := "more.go:20", after := #[{ on := 1, ground := Ground.data }, { on := 2, ground := Ground.data }], guard := none }) (v := ?vq3x) rfl (by kernel_rfl) (by kernel_rfl) (by kernel_rfl) (fun _ _ _ h => h) (Or.inl ⟨by rfl, ?hyq3x⟩) (by assumption) ?restq3x
        case hyq3x =>
          intro w hSw
          (try dsimp only at hSw)
          go_simp
          all_goals (with_reducible rfl)
        try simp only [Act.put, List.setIfInBounds_toArray, List.set_cons_zero, List.set_cons_succ]
        refine wpAnyH_take (i := 5) (oi := { dst := some 58, op := Op.move (Operand.tmp 0), type := 22, pos := "more.go:20", after := #[], guard := none }) (v := ?vq4x) rfl (by kernel_rfl) (by kernel_rfl) (by kernel_rfl) (fun _ _ _ h => h) (Or.inl ⟨by rfl, ?hyq4x⟩) (by assumption) ?restq4x
        case hyq4x =>
          intro w hSw
          (try dsimp only at hSw)
          go_simp
          all_goals (with_reducible rfl)
        try simp only [Act.put, List.setIfInBounds_toArray, List.set_cons_zero, List.set_cons_succ]
        refine wpAnyH_take (i := 6) (oi := { dst := some 59, op := Op.move (Operand.tmp 11), type := 3, pos := "more.go:20", after := #[], guard := none }) (v := ?vq5x) rfl (by kernel_rfl) (by kernel_rfl) (by kernel_rfl) (fun _ _ _ h => h) (Or.inl ⟨by rfl, ?hyq5x⟩) (by assumption) ?restq5x
        case hyq5x =>
          intro w hSw
          (try dsimp only at hSw)
          go_simp
          all_goals (with_reducible rfl)
        try simp only [Act.put, List.setIfInBounds_toArray, List.set_cons_zero, List.set_cons_succ]
        refine wpAnyH_take (i := 7) (oi := { dst := some 60, op := Op.binOp BinOp.add 3 (Operand.tmp 59) (Operand.const (Value.int IntKind.i64 1)) 3, type := 3, pos := "more.go:20", after := #[{ on := 6, ground := Ground.data }], guard := none }) (v := ?vq6x) rfl (by kernel_rfl) (by kernel_rfl) (by kernel_rfl) (fun _ _ _ h => h) (Or.inl ⟨by rfl, ?hyq6x⟩) (by assumption) ?restq6x
        case hyq6x =>
          intro w hSw
          (try dsimp only at hSw)
          go_simp
          all_goals (with_reducible rfl)
        try simp only [Act.put, List.setIfInBounds_toArray, List.set_cons_zero, List.set_cons_succ]
        refine wpAnyH_take (i := 8) (oi := { dst := some 61, op := Op.slice 22 (Operand.tmp 58) (some (Operand.tmp 60)) none none, type := 22, pos := "more.go:20", after := #[{ on := 5, ground := Ground.data }, { on := 7, ground := Ground.data }], guard := none }) (v := ?vq7x) rfl (by kernel_rfl) (by kernel_rfl) (by kernel_rfl) (fun _ _ _ h => h) (Or.inl ⟨by rfl, ?hyq7x⟩) (by assumption) ?restq7x
        case hyq7x =>
          intro w hSw
          (try dsimp only at hSw)
          go_simp
          all_goals (with_reducible rfl)
        try simp only [Act.put, List.setIfInBounds_toArray, List.set_cons_zero, List.set_cons_succ]
        refine wpAnyH_ready (rs := [0]) (by kernel_rfl) (by simp) ?_
        refine AllReadyH.cons (o := { dst := some 53, op := Op.buildSlice 22 0 #[], type := 22, pos := "more.go:20", after := #[], guard := none }) rfl (fun K hK => ?_) AllReadyH.nil
        try go_simp
        try go_wp2_with fail
        refine hK.out _ _ ?_ (fun hHeld => ?_)
        · (try dsimp only)
          try go_keep
        clear hK K
        try simp only [Act.put, List.setIfInBounds_toArray, List.set_cons_zero, List.set_cons_succ]
        have G0 : Hid (OwnC (w5.alloc (.cells #[] 28)).drew w5.heap.size (some ⟨w5.heap.size, 0, none⟩) 0 0 [] ∧ Below w5.heap.size w5 (w5.alloc (.cells #[] 28)).drew) := ⟨(OwnC.made0 w5).below (Below.refl _ _).drew, ((Below.refl _ _).alloc (Nat.le_refl _) _).drew⟩
        generalize (w5.alloc (.cells #[] 28)).drew = w6 at *
        refine wpAnyH_ready (rs := [4]) (by kernel_rfl) (by simp) ?_
        refine AllReadyH.cons (o := { dst := some 57, op := Op.call { callee := Callee.builtin Builtin.append, args := #[Operand.tmp 53, Operand.tmp 56], argTypes := #[22, 22] }, type := 22, pos := "more.go:20", after := #[{ on := 0, ground := Ground.data }, { on := 3, ground := Ground.data }], guard := none }) rfl (fun K hK => ?_) AllReadyH.nil
        refine spc_appends rfl _ _ rfl rfl rfl (lo := w5.heap.size) (l := []) (n := 0) G0.out.1 ((HVW.out.kons.take (k := J) (by omega)).below G0.out.2) (by omega) G0.out.2.size ?_
        intro A6 c6 w7 hown hgrow
        have G1 : Hid (OwnC w7 w5.heap.size A6 c6 J ((ps.map (·.1)).take J) ∧ Below w5.heap.size w5 w7) := ⟨by simpa using hown, far_grown G0.out.2 G0.out.1 hgrow⟩
        clear hown hgrow
        try rw [Nat.zero_add]
        try go_wp2_with fail
        refine hK.out _ _ ?_ (fun hHeld => ?_)
        · (try dsimp only)
          try go_keep
        clear hK K
        try simp only [Act.put, List.setIfInBounds_toArray, List.set_cons_zero, List.set_cons_succ]
        refine wpAnyH_ready (rs := [9]) (by kernel_rfl) (by simp) ?_
        refine AllReadyH.cons (o := { dst := some 62, op := Op.call { callee := Callee.builtin Builtin.append, args := #[Operand.tmp 57, Operand.tmp 61], argTypes := #[22, 22] }, type := 22, pos := "more.go:20", after := #[{ on := 4, ground := Ground.data }, { on := 8, ground := Ground.data }, { on := 4, ground := Ground.chain }], guard := none }) rfl (fun K hK => ?_) AllReadyH.nil
        refine spc_appends rfl _ _ rfl rfl rfl (lo := w5.heap.size) G1.out.1 (HKD.out.below G1.out.2) (by omega) G1.out.2.size ?_
        intro A7 c7 w8 hown hgrow
        have G2 : Hid (OwnC w8 w5.heap.size A7 c7 (J + (m - (J + 1))) ((ps.map (·.1)).take J ++ (ps.map (·.1)).drop (J + 1)) ∧ Below w5.heap.size w5 w8) := ⟨hown, far_grown G1.out.2 G1.out.1 hgrow⟩
        clear hown hgrow
        try go_wp2_with fail
        refine hK.out _ _ ?_ (fun hHeld => ?_)
        · (try dsimp only)
          try go_keep
        clear hK K
        try simp only [Act.put, List.setIfInBounds_toArray, List.set_cons_zero, List.set_cons_succ]
        refine wpAnyH_take (i := 10) (oi := { dst := some 12, op := Op.assign (Operand.tmp 62), type := 22, pos := "more.go:20", after := #[{ on := 9, ground := Ground.data }, { on := 9, ground := Ground.chain }, { on := 0, ground := Ground.phase }, { on := 1, ground := Ground.phase }, { on := 2, ground := Ground.phase }, { on := 3, ground := Ground.phase }, { on := 4, ground := Ground.phase }, { on := 5, ground := Ground.phase }, { on := 6, ground := Ground.phase }, { on := 7, ground := Ground.phase }, { on := 8, ground := Ground.phase }, { on := 9, ground := Ground.phase }], guard := none }) (v := ?vq8x) rfl (by kernel_rfl) (by kernel_rfl) (by kernel_rfl) (fun _ _ _ h => h) (Or.inl ⟨by rfl, ?hyq8x⟩) (by assumption) ?restq8x
        case hyq8x =>
          intro w hSw
          (try dsimp only at hSw)
          go_simp
          all_goals (with_reducible rfl)
        try simp only [Act.put, List.setIfInBounds_toArray, List.set_cons_zero, List.set_cons_succ]
        refine wpAnyH_done (by kernel_rfl) ?_ _
        have HLS : Hid (Gns w8 A7 (J + (m - (J + 1))) (ps.take J ++ ps.drop (J + 1))) := HVW.out.other G2.out.2 (by rw [List.map_append, List.map_take, List.map_drop]; exact G2.out.1.kons) (fun x hx => (List.mem_append.1 hx).elim List.mem_of_mem_take List.mem_of_mem_drop) (by omega)
        have HCS : Hid (csOf w8 N (ps.take J ++ ps.drop (J + 1)) = cs.take J ++ cs.drop (J + 1)) := by
          have e := csOf_turn (N := N) (fun x hx => HVW.out.each x hx) G2.out.2
          show List.map _ _ = _
          rw [HCW.out] at e
          rw [List.map_append, List.map_take, List.map_drop]
          show List.take J (csOf w8 N ps) ++ List.drop (J + 1) (csOf w8 N ps) = _
          rw [e]
        have HB8 := Lib.hid G2.out.2
        clear G0 G1 G2
        go_wp2_with fail
        refine (Forest_c n N HN.out A7 (J + (m - (J + 1))) c7 (ps.take J ++ ps.drop (J + 1)) (cs.take J ++ cs.drop (J + 1)) w8 w8 HLS.out HCS.out (Below.refl _ _)).mono ?_
        rintro e WX ⟨⟨r, rfl, hr⟩, hbx⟩
        obtain rfl : r = true := hr.2 (fail_less HBN.out J HFZ.out)
        have HBX : Hid (Below w5.heap.size w5 WX) := HB8.out.trans (hbx.mono HB8.out.size)
        clear hr hbx HLS HCS HB8
        go_wp2_with fail
        refine (First_c n N HN.out A3 (m + m') c3 (ps ++ qs) (cs ++ ds) w5 WX H5.out.1 HCA.out HBX.out).mono ?_
        rintro e wf ⟨x, rfl, hx, hbf⟩
        have HX : Hid (x < 0 ∨ (m : Int) ≤ x) := by
          have := (HKF.out.more hx).2 (by omega)
          rw [HCL.out] at this
          exact this
        have HBF : Hid (Below w5.heap.size w5 wf) := HBX.out.trans (hbf.mono HBX.out.size)
        clear hx hbf
        by_cases hx0 : x < 0
        · go_wp2_with fail
          refine (known11_c wf).mono ?_
          rintro e wz ⟨rfl, hbz⟩
          have HBZ : Hid (Below w.heap.size w wz) := HB5.out.trans ((HBF.out.trans (hbz.mono HBF.out.size)).mono HB5.out.size)
          clear hbz
          go_wp2
          go_ret
          exact ⟨rfl, HBZ.out⟩
        · have hx1 : (m : Int) ≤ x := HX.out.resolve_left hx0
          go_wp2_with fail
          refine (known11_c wf).mono ?_
          rintro e wz ⟨rfl, hbz⟩
          have HBZ : Hid (Below w.heap.size w wz) := HB5.out.trans ((HBF.out.trans (hbz.mono HBF.out.size)).mono HB5.out.size)
          clear hbz
          go_wp2
          go_ret
          exact ⟨rfl, HBZ.out⟩
      · have hcT : (c = J + 1) = False := eq_false hcJ
        rw [if_neg hcJ] at HKD
        clear hcJ
        refine wp_region_held_drew (S := fun _ => True) (by kernel_rfl) ?_ (fun hHeld => ?_)
        · (try dsimp only)
          try go_keep
        refine wpAnyH_take (i := 1) (oi := { dst := some 54, op := Op.move (Operand.tmp 0), type := 22, pos := "more.go:20", after := #[], guard := none }) (v := ?vq9x) rfl (by kernel_rfl) (by kernel_rfl) (by kernel_rfl) (fun _ _ _ h => h) (Or.inl ⟨by rfl, ?hyq9x⟩) (by assumption) ?restq9x
        case hyq9x =>
          intro w hSw
          (try dsimp only at hSw)
          go_simp
          all_goals (with_reducible rfl)
        try simp only [Act.put, List.setIfInBounds_toArray, List.set_cons_zero, List.set_cons_succ]
        refine wpAnyH_take (i := 2) (oi := { dst := some 55, op := Op.move (Operand.tmp 11), type := 3, pos := "more.go:20", after := #[], guard := none }) (v := ?vq10x) rfl (by kernel_rfl) (by kernel_rfl) (by kernel_rfl) (fun _ _ _ h => h) (Or.inl ⟨by rfl, ?hyq10x⟩) (by assumption) ?restq10x
        case hyq10x =>
          intro w hSw
          (try dsimp only at hSw)
          go_simp
          all_goals (with_reducible rfl)
        try simp only [Act.put, List.setIfInBounds_toArray, List.set_cons_zero, List.set_cons_succ]
        refine wpAnyH_take (i := 3) (oi := { dst := some 56, op := Op.slice 22 (Operand.tmp 54) none (some (Operand.tmp 55)) none, type := 22, pos := "more.go:20", after := #[{ on := 1, ground := Ground.data }, { on := 2, ground := Ground.data }], guard := none }) (v := ?vq11x) rfl (by kernel_rfl) (by kernel_rfl) (by kernel_rfl) (fun _ _ _ h => h) (Or.inl ⟨by rfl, ?hyq11x⟩) (by assumption) ?restq11x
        case hyq11x =>
          intro w hSw
          (try dsimp only at hSw)
          go_simp
          all_goals (with_reducible rfl)
        try simp only [Act.put, List.setIfInBounds_toArray, List.set_cons_zero, List.set_cons_succ]
        refine wpAnyH_take (i := 5) (oi := { dst := some 58, op := Op.move (Operand.tmp 0), type := 22, pos := "more.go:20", after := #[], guard := none }) (v := ?vq12x) rfl (by kernel_rfl) (by kernel_rfl) (by kernel_rfl) (fun _ _ _ h => h) (Or.inl ⟨by rfl, ?hyq12x⟩) (by assumption) ?restq12x
        case hyq12x =>
          intro w hSw
          (try dsimp only at hSw)
          go_simp
          all_goals (with_reducible rfl)
        try simp only [Act.put, List.setIfInBounds_toArray, List.set_cons_zero, List.set_cons_succ]
        refine wpAnyH_take (i := 6) (oi := { dst := some 59, op := Op.move (Operand.tmp 11), type := 3, pos := "more.go:20", after := #[], guard := none }) (v := ?vq13x) rfl (by kernel_rfl) (by kernel_rfl) (by kernel_rfl) (fun _ _ _ h => h) (Or.inl ⟨by rfl, ?hyq13x⟩) (by assumption) ?restq13x
        case hyq13x =>
          intro w hSw
          (try dsimp only at hSw)
          go_simp
          all_goals (with_reducible rfl)
        try simp only [Act.put, List.setIfInBounds_toArray, List.set_cons_zero, List.set_cons_succ]
        refine wpAnyH_take (i := 7) (oi := { dst := some 60, op := Op.binOp BinOp.add 3 (Operand.tmp 59) (Operand.const (Value.int IntKind.i64 1)) 3, type := 3, pos := "more.go:20", after := #[{ on := 6, ground := Ground.data }], guard := none }) (v := ?vq14x) rfl (by kernel_rfl) (by kernel_rfl) (by kernel_rfl) (fun _ _ _ h => h) (Or.inl ⟨by rfl, ?hyq14x⟩) (by assumption) ?restq14x
        case hyq14x =>
          intro w hSw
          (try dsimp only at hSw)
          go_simp
          all_goals (with_reducible rfl)
        try simp only [Act.put, List.setIfInBounds_toArray, List.set_cons_zero, List.set_cons_succ]
        refine wpAnyH_take (i := 8) (oi := { dst := some 61, op := Op.slice 22 (Operand.tmp 58) (some (Operand.tmp 60)) none none, type := 22, pos := "more.go:20", after := #[{ on := 5, ground := Ground.data }, { on := 7, ground := Ground.data }], guard := none }) (v := ?vq15x) rfl (by kernel_rfl) (by kernel_rfl) (by kernel_rfl) (fun _ _ _ h => h) (Or.inl ⟨by rfl, ?hyq15x⟩) (by assumption) ?restq15x
        case hyq15x =>
          intro w hSw
          (try dsimp only at hSw)
          go_simp
          all_goals (with_reducible rfl)
        try simp only [Act.put, List.setIfInBounds_toArray, List.set_cons_zero, List.set_cons_succ]
        refine wpAnyH_ready (rs := [0]) (by kernel_rfl) (by simp) ?_
        refine AllReadyH.cons (o := { dst := some 53, op := Op.buildSlice 22 0 #[], type := 22, pos := "more.go:20", after := #[], guard := none }) rfl (fun K hK => ?_) AllReadyH.nil
        try go_simp
        try go_wp2_with fail
        refine hK.out _ _ ?_ (fun hHeld => ?_)
        · (try dsimp only)
          try go_keep
        clear hK K
        try simp only [Act.put, List.setIfInBounds_toArray, List.set_cons_zero, List.set_cons_succ]
        have G0 : Hid (OwnC (w5.alloc (.cells #[] 28)).drew w5.heap.size (some ⟨w5.heap.size, 0, none⟩) 0 0 [] ∧ Below w5.heap.size w5 (w5.alloc (.cells #[] 28)).drew) := ⟨(OwnC.made0 w5).below (Below.refl _ _).drew, ((Below.refl _ _).alloc (Nat.le_refl _) _).drew⟩
        generalize (w5.alloc (.cells #[] 28)).drew = w6 at *
        refine wpAnyH_ready (rs := [4]) (by kernel_rfl) (by simp) ?_
        refine AllReadyH.cons (o := { dst := some 57, op := Op.call { callee := Callee.builtin Builtin.append, args := #[Operand.tmp 53, Operand.tmp 56], argTypes := #[22, 22] }, type := 22, pos := "more.go:20", after := #[{ on := 0, ground := Ground.data }, { on := 3, ground := Ground.data }], guard := none }) rfl (fun K hK => ?_) AllReadyH.nil
        refine spc_appends rfl _ _ rfl rfl rfl (lo := w5.heap.size) (l := []) (n := 0) G0.out.1 ((HVW.out.kons.take (k := J) (by omega)).below G0.out.2) (by omega) G0.out.2.size ?_
        intro A6 c6 w7 hown hgrow
        have G1 : Hid (OwnC w7 w5.heap.size A6 c6 J ((ps.map (·.1)).take J) ∧ Below w5.heap.size w5 w7) := ⟨by simpa using hown, far_grown G0.out.2 G0.out.1 hgrow⟩
        clear hown hgrow
        try rw [Nat.zero_add]
        try go_wp2_with fail
        refine hK.out _ _ ?_ (fun hHeld => ?_)
        · (try dsimp only)
          try go_keep
        clear hK K
        try simp only [Act.put, List.setIfInBounds_toArray, List.set_cons_zero, List.set_cons_succ]
        refine wpAnyH_ready (rs := [9]) (by kernel_rfl) (by simp) ?_
        refine AllReadyH.cons (o := { dst := some 62, op := Op.call { callee := Callee.builtin Builtin.append, args := #[Operand.tmp 57, Operand.tmp 61], argTypes := #[22, 22] }, type := 22, pos := "more.go:20", after := #[{ on := 4, ground := Ground.data }, { on := 8, ground := Ground.data }, { on := 4, ground := Ground.chain }], guard := none }) rfl (fun K hK => ?_) AllReadyH.nil
        refine spc_appends rfl _ _ rfl rfl rfl (lo := w5.heap.size) G1.out.1 (HKD.out.below G1.out.2) (by omega) G1.out.2.size ?_
        intro A7 c7 w8 hown hgrow
        have G2 : Hid (OwnC w8 w5.heap.size A7 c7 (J + (m - (J + 1))) ((ps.map (·.1)).take J ++ (ps.map (·.1)).drop (J + 1)) ∧ Below w5.heap.size w5 w8) := ⟨hown, far_grown G1.out.2 G1.out.1 hgrow⟩
        clear hown hgrow
        try go_wp2_with fail
        refine hK.out _ _ ?_ (fun hHeld => ?_)
        · (try dsimp only)
          try go_keep
        clear hK K
        try simp only [Act.put, List.setIfInBounds_toArray, List.set_cons_zero, List.set_cons_succ]
        refine wpAnyH_take (i := 10) (oi := { dst := some 12, op := Op.assign (Operand.tmp 62), type := 22, pos := "more.go:20", after := #[{ on := 9, ground := Ground.data }, { on := 9, ground := Ground.chain }, { on := 0, ground := Ground.phase }, { on := 1, ground := Ground.phase }, { on := 2, ground := Ground.phase }, { on := 3, ground := Ground.phase }, { on := 4, ground := Ground.phase }, { on := 5, ground := Ground.phase }, { on := 6, ground := Ground.phase }, { on := 7, ground := Ground.phase }, { on := 8, ground := Ground.phase }, { on := 9, ground := Ground.phase }], guard := none }) (v := ?vq16x) rfl (by kernel_rfl) (by kernel_rfl) (by kernel_rfl) (fun _ _ _ h => h) (Or.inl ⟨by rfl, ?hyq16x⟩) (by assumption) ?restq16x
        case hyq16x =>
          intro w hSw
          (try dsimp only at hSw)
          go_simp
          all_goals (with_reducible rfl)
        try simp only [Act.put, List.setIfInBounds_toArray, List.set_cons_zero, List.set_cons_succ]
        refine wpAnyH_done (by kernel_rfl) ?_ _
        have HLS : Hid (Gns w8 A7 (J + (m - (J + 1))) (ps.take J ++ ps.drop (J + 1))) := HVW.out.other G2.out.2 (by rw [List.map_append, List.map_take, List.map_drop]; exact G2.out.1.kons) (fun x hx => (List.mem_append.1 hx).elim List.mem_of_mem_take List.mem_of_mem_drop) (by omega)
        have HCS : Hid (csOf w8 N (ps.take J ++ ps.drop (J + 1)) = cs.take J ++ cs.drop (J + 1)) := by
          have e := csOf_turn (N := N) (fun x hx => HVW.out.each x hx) G2.out.2
          show List.map _ _ = _
          rw [HCW.out] at e
          rw [List.map_append, List.map_take, List.map_drop]
          show List.take J (csOf w8 N ps) ++ List.drop (J + 1) (csOf w8 N ps) = _
          rw [e]
        have HB8 := Lib.hid G2.out.2
        clear G0 G1 G2
        go_wp2_with fail
        refine (Forest_c n N HN.out A7 (J + (m - (J + 1))) c7 (ps.take J ++ ps.drop (J + 1)) (cs.take J ++ cs.drop (J + 1)) w8 w8 HLS.out HCS.out (Below.refl _ _)).mono ?_
        rintro e WX ⟨⟨r, rfl, hr⟩, hbx⟩
        obtain rfl : r = true := hr.2 (fail_less HBN.out J HFZ.out)
        have HBX : Hid (Below w5.heap.size w5 WX) := HB8.out.trans (hbx.mono HB8.out.size)
        clear hr hbx HLS HCS HB8
        go_wp2_with fail
        refine (First_c n N HN.out A3 (m + m') c3 (ps ++ qs) (cs ++ ds) w5 WX H5.out.1 HCA.out HBX.out).mono ?_
        rintro e wf ⟨x, rfl, hx, hbf⟩
        have HX : Hid (x < 0 ∨ (m : Int) ≤ x) := by
          have := (HKF.out.more hx).2 (by omega)
          rw [HCL.out] at this
          exact this
        have HBF : Hid (Below w5.heap.size w5 wf) := HBX.out.trans (hbf.mono HBX.out.size)
        clear hx hbf
        by_cases hx0 : x < 0
        · go_wp2_with fail
          refine (known11_c wf).mono ?_
          rintro e wz ⟨rfl, hbz⟩
          have HBZ : Hid (Below w.heap.size w wz) := HB5.out.trans ((HBF.out.trans (hbz.mono HBF.out.size)).mono HB5.out.size)
          clear hbz
          go_wp2
          go_ret
          exact ⟨rfl, HBZ.out⟩
        · have hx1 : (m : Int) ≤ x := HX.out.resolve_left hx0
          go_wp2_with fail
          refine (known11_c wf).mono ?_
          rintro e wz ⟨rfl, hbz⟩
          have HBZ : Hid (Below w.heap.size w wz) := HB5.out.trans ((HBF.out.trans (hbz.mono HBF.out.size)).mono HB5.out.size)
          clear hbz
          go_wp2
          go_ret
          exact ⟨rfl, HBZ.out⟩
  · subst hkn
    have HNO : Hid (failN N (cs.take kn) = 0) := (fail_sum cs kn (Nat.le_of_lt hlt)).2 hno
    have hkm : kn < m := by have := HCL.out; omega
    clear hno hrg
    have k0 : (0 : Int) ≤ (kn : Int) := by omega
    have k1 : (kn : Int) < (m : Int) := by omega
    have k2 : (kn : Int) ≤ (c : Int) := by omega
    have h0 : 0 < m := by omega
    obtain ⟨b, off, hA, _⟩ := HVW.out.kons.mem h0
    subst hA
    go_wp2_with fail
    refine (First_c n N HN.out A3 (m + m') c3 (ps ++ qs) (cs ++ ds) w5 w5 H5.out.1 HCA.out (Below.refl _ _)).mono ?_
    rintro e wf ⟨x, rfl, hx, hbf⟩
    obtain rfl : x = (kn : Int) := (HKF.out.more hx).1 (by omega)
    have HBF : Hid (Below w5.heap.size w5 wf) := hbf
    clear hx hbf
    have ek : ((kn : Int) == (kn : Int)) = true := by simp
    go_wp2_with fail
    refine (Forest_c n N HN.out (some ⟨b, off, none⟩) kn c (ps.take kn) (cs.take kn) w5 wf ⟨by rw [List.map_take]; exact HVW.out.kons.take (by omega), fun x hx => HVW.out.each x (List.mem_of_mem_take hx), by omega⟩ (by unfold csOf; rw [List.map_take]; exact congrArg _ HCW.out) HBF.out).mono ?_
    rintro e wg ⟨⟨r, rfl, hr⟩, hbg⟩
    obtain rfl : r = true := hr.2 HNO.out
    have HBG : Hid (Below w5.heap.size w5 wg) := HBF.out.trans (hbg.mono HBF.out.size)
    clear hr hbg
    go_wp2_with fail
    refine (known11_c wg).mono ?_
    rintro e wz ⟨rfl, hbz⟩
    have HBZ : Hid (Below w.heap.size w wz) := HB5.out.trans ((HBG.out.trans (hbz.mono HBG.out.size)).mono HB5.out.size)
    clear hbz
    go_wp2
    go_ret
    exact ⟨rfl, HBZ.out⟩
end Go.Proofs.Ytkfkjdpkkagjgaa
