/-
  AffNames: the walk of the law.
-/
import Derived.Test.YtdpbceipiappjaaGreatDoorSrO
import Derived.Test.YtdpbceipiappjaaGreatDoorBlk
import Derived.Test.YtdpbceipiappjaaGreatDoorMLd
namespace Go.Proofs.YtdpbceipiappjaaGreatDoor
set_option maxRecDepth 20000
open Go.RowKit

/-- A rational as it comes in: two rows. -/
def RdR (w : World) (v : Rv) : Prop := v.n ≤ v.c ∧ v.m ≤ v.d ∧ ∃ a b, Row w 0 v.A v.n a ∧ Row w 0 v.B v.m b
theorem RdR.rw {w : World} {v : Rv} {p : Nat} (h : RdR w v) (hn : v.n ≤ p) (hm : v.m ≤ p) : ∃ r, Rw w v r p := by
  obtain ⟨h1, h2, a, b, ha, hb⟩ := h
  exact ⟨_, h1, h2, hn, hm, a, b, ha, hb, rfl⟩
theorem rdv_ex {w : World} {p : Nat} : ∀ (l : List Rv), (∀ x ∈ l, RdR w x ∧ x.n ≤ p ∧ x.m ≤ p) → ∃ L, RdV w p l L
  | [], _ => ⟨[], trivial⟩
  | x :: l, h => by
    obtain ⟨L, hL⟩ := rdv_ex l fun y hy => h y (List.mem_cons_of_mem _ hy)
    obtain ⟨h1, h2, h3⟩ := h x List.mem_cons_self
    obtain ⟨q, hq⟩ := h1.rw (p := p) h2 h3
    exact ⟨q :: L, hq, hL⟩
theorem RdV.more {w : World} {p q : Nat} (hq : p ≤ q) : ∀ {l : List Rv} {L : List Rat}, RdV w p l L → RdV w q l L
  | [], [], _ => trivial
  | _ :: _, _ :: _, h => ⟨h.1.more hq, RdV.more hq h.2⟩
  | [], _ :: _, h => h.elim
  | _ :: _, [], h => h.elim
theorem RdV.szAt {w : World} {l : List Rv} {L : List Rat} (h : RdV w 3 l L) (i : Int) : Sz (atV L i) 17 := by
  unfold atV
  split
  · by_cases hi : i.toNat < l.length
    · obtain ⟨x, y, _, hy, hr⟩ := h.get i.toNat hi
      rw [hy]
      exact (hr.sz (by omega)).more (by omega)
    · rw [List.getElem?_eq_none (by rw [← h.len]; omega)]
      exact Sz.zero (by omega)
  · exact Sz.zero (by omega)
def okB (ss ns : List ByteArray) (x : ByteArray) : Bool := (ixB x ss).isSome || (ixB x ns).isSome
theorem gOf_ok {f : Int → List (Int × Rat) × Rat} {ss ns : List ByteArray} {L : List Rat} {s : ByteArray} : gOf f ss ns L s ≠ none ↔ okB ss ns s = true := by
  unfold gOf okB
  cases ixB s ss with
  | some i => simp
  | none => cases ixB s ns <;> simp
theorem kn_iff {f : Int → List (Int × Rat) × Rat} {ss ns : List ByteArray} {L : List Rat} {t : Ex} {l : List ByteArray} (h : NmEq l t.nms) : l.all (okB ss ns) = true ↔ Kn (gOf f ss ns L) t := by
  have e : ∀ x y : ByteArray, y.toList = x.toList → okB ss ns y = okB ss ns x := fun x y h => by unfold okB; rw [ixB_same h, ixB_same h]
  rw [List.all_eq_true]
  constructor
  · intro h1 s hs
    obtain ⟨x, hx, e1⟩ := h.2 s hs
    exact gOf_ok.2 ((e _ _ e1) ▸ h1 x hx)
  · intro h1 x hx
    obtain ⟨y, hy, e1⟩ := h.1 x hx
    exact (e _ _ e1) ▸ gOf_ok.1 (h1 y hy)
theorem said_code {g : ByteArray → Option (List (Int × Rat) × Rat)} {t : Ex} (hf : t.fine) (a : Bool) (ha : a = true ↔ Kn g t) (c : Int) (hc : c = (sumOf g t).code) : (a = true ∧ (c = 0 ∨ c = 6 ∨ c = 7)) ∨ (a = false ∧ (c = 5 ∨ c = 6 ∨ c = 7)) := by
  have h := sumOf_said g t hf
  subst hc
  cases hr : sumOf g t with
  | ok L k =>
    rw [hr] at h
    exact .inl ⟨ha.2 h, .inl rfl⟩
  | err e =>
    rw [hr] at h
    rcases h with ⟨rfl, h⟩ | rfl | rfl
    · exact .inr ⟨by cases a with
        | true => exact absurd (ha.1 rfl) h
        | false => rfl, .inl rfl⟩
    · cases a
      · exact .inr ⟨rfl, .inr (.inl rfl)⟩
      · exact .inl ⟨rfl, .inr (.inl rfl)⟩
    · cases a
      · exact .inr ⟨rfl, .inr (.inr rfl)⟩
      · exact .inl ⟨rfl, .inr (.inr rfl)⟩
theorem all_snoc (ss ns : List ByteArray) (l : List ByteArray) (i : Nat) (x : ByteArray) (hx : l[i]? = some x) : (l.take (i + 1)).all (okB ss ns) = ((l.take i).all (okB ss ns) && okB ss ns x) := by
  rw [List.take_add_one, hx]
  simp
set_option maxRecDepth 100000 in
set_option maxHeartbeats 25600000 in
theorem AffNames_all (u : Ev) (kf : Nat) (v : Nv) (ss ns : List ByteArray) (l : List Rv) (w : World) (hr : Raw w kf u) (hss : Strs w v.VA v.vn ss) (hns : Strs w v.NA v.nn ns) (hll : Nums w v.LA v.ln l) (hl3 : ∀ x ∈ l, RdR w x ∧ x.n ≤ 100000000000000 ∧ x.m ≤ 100000000000000) (hv1 : v.vn ≤ 100000000000000) (hv2 : v.nn ≤ 100000000000000) (hv3 : v.ln ≤ 100000000000000) (hT : Tb w) :
    Calls Tryz.prog 3 #[.agg #[.int .i64 u.k, .bool u.r.s, .slice u.r.A u.r.n u.r.c, .slice u.r.B u.r.m u.r.d, .string u.s, .slice u.K u.n u.c], .agg #[.slice v.VA v.vn v.vc, .slice v.NA v.nn v.nc, .slice v.LA v.ln v.lc]] w fun e w' => e = .returned (.bool true) ∧ Below w.heap.size w w' := by
  have k_e := (C6.new w (.int .i64 u.k) (.bool u.r.s) (.slice u.r.A u.r.n u.r.c) (.slice u.r.B u.r.m u.r.d) (.string u.s) (.slice u.K u.n u.c)).alloc (.cells #[.slice v.VA v.vn v.vc, .slice v.NA v.nn v.nc, .slice v.LA v.ln v.lc] 31)
  have k_v := V3.new (w.alloc (.cells #[.int .i64 u.k, .bool u.r.s, .slice u.r.A u.r.n u.r.c, .slice u.r.B u.r.m u.r.d, .string u.s, .slice u.K u.n u.c] 27)) (.slice v.VA v.vn v.vc) (.slice v.NA v.nn v.nc) (.slice v.LA v.ln v.lc)
  have es : (w.alloc (.cells #[.int .i64 u.k, .bool u.r.s, .slice u.r.A u.r.n u.r.c, .slice u.r.B u.r.m u.r.d, .string u.s, .slice u.K u.n u.c] 27)).heap.size = w.heap.size + 1 := by simp
  rw [es] at k_v
  clear es
  have hb0 := ((Below.refl w.heap.size w).alloc (Nat.le_refl _) (.cells #[.int .i64 u.k, .bool u.r.s, .slice u.r.A u.r.n u.r.c, .slice u.r.B u.r.m u.r.d, .string u.s, .slice u.K u.n u.c] 27)).alloc (by simp) (.cells #[.slice v.VA v.vn v.vc, .slice v.NA v.nn v.nc, .slice v.LA v.ln v.lc] 31)
  have HC := Lib.hid (weight_c kf u _ w 300 hr hb0 (by omega) (by omega))
  have HALL : Hid (Raw w kf u ∧ Strs w v.VA v.vn ss ∧ Strs w v.NA v.nn ns ∧ Nums w v.LA v.ln l ∧ (∀ x ∈ l, RdR w x ∧ x.n ≤ 100000000000000 ∧ x.m ≤ 100000000000000) ∧ v.vn ≤ 100000000000000 ∧ v.nn ≤ 100000000000000 ∧ v.ln ≤ 100000000000000 ∧ Tb w) := ⟨hr, hss, hns, hll, hl3, hv1, hv2, hv3, hT⟩
  clear hr hss hns hll hl3 hv1 hv2 hv3 hT
  obtain ⟨e0, e1, e2, e3, e4, e5⟩ := k_e.facts
  obtain ⟨v0, v1, v2⟩ := k_v.facts
  go_enter Tryz.func3, Tryz.ntmps3
  go_wp2_with fail
  have HK : Hid (∀ w', Below ((w.alloc (.cells #[.int .i64 u.k, .bool u.r.s, .slice u.r.A u.r.n u.r.c, .slice u.r.B u.r.m u.r.d, .string u.s, .slice u.K u.n u.c] 27)).alloc (.cells #[.slice v.VA v.vn v.vc, .slice v.NA v.nn v.nc, .slice v.LA v.ln v.lc] 31)).heap.size ((w.alloc (.cells #[.int .i64 u.k, .bool u.r.s, .slice u.r.A u.r.n u.r.c, .slice u.r.B u.r.m u.r.d, .string u.s, .slice u.K u.n u.c] 27)).alloc (.cells #[.slice v.VA v.vn v.vc, .slice v.NA v.nn v.nc, .slice v.LA v.ln v.lc] 31)) w' → C6 w' w.heap.size (.int .i64 u.k) (.bool u.r.s) (.slice u.r.A u.r.n u.r.c) (.slice u.r.B u.r.m u.r.d) (.string u.s) (.slice u.K u.n u.c) ∧ V3 w' (w.heap.size + 1) (.slice v.VA v.vn v.vc) (.slice v.NA v.nn v.nc) (.slice v.LA v.ln v.lc) ∧ Below w.heap.size w w') := fun w' h => ⟨k_e.below h, k_v.below h, hb0.trans (h.mono hb0.size)⟩
  clear k_e k_v hb0
  generalize ((w.alloc (.cells #[.int .i64 u.k, .bool u.r.s, .slice u.r.A u.r.n u.r.c, .slice u.r.B u.r.m u.r.d, .string u.s, .slice u.K u.n u.c] 27)).alloc (.cells #[.slice v.VA v.vn v.vc, .slice v.NA v.nn v.nc, .slice v.LA v.ln v.lc] 31)) = W at *
  refine HC.out.mono ?_
  rintro e w1 ⟨R, rfl, hL, hb1⟩
  have hL2 := Lib.hid hL.2
  have HB1 := Lib.hid hb1
  clear HC hL hb1 e0 e1 e2 e3 e4 e5 v0 v1 v2
  obtain ⟨e0, e1, e2, e3, e4, e5⟩ := (HK.out _ HB1.out).1.facts
  obtain ⟨v0, v1, v2⟩ := (HK.out _ HB1.out).2.1.facts
  by_cases hR : R < 0
  · clear hL2
    go_wp2
    go_ret
    exact ⟨rfl, (HK.out _ HB1.out).2.2⟩
  obtain ⟨L0, hl⟩ : ∃ L0 : Nat, Hid (Light w kf u L0 ∧ L0 ≤ 300) := by
    rcases hL2.out with h | ⟨L0, h1, h2, h3⟩
    · exact absurd h hR
    · exact ⟨L0, h1, by omega⟩
  clear hL2
  go_wp2_with fail
  refine (long_c v l _ (HALL.out.2.2.2.1.below (HK.out _ HB1.out).2.2) HALL.out.2.2.2.2.2.1 HALL.out.2.2.2.2.2.2.1 HALL.out.2.2.2.2.2.2.2.1 (fun x hx => (HALL.out.2.2.2.2.1 x hx).2)).mono ?_
  rintro e w2 ⟨r, rfl, hr, hb⟩
  have HB2 := Lib.hid (HB1.out.trans (hb.mono HB1.out.size))
  have HG := Lib.hid hr
  clear hb hr e0 e1 e2 e3 e4 e5 v0 v1 v2 HB1
  obtain ⟨e0, e1, e2, e3, e4, e5⟩ := (HK.out _ HB2.out).1.facts
  obtain ⟨v0, v1, v2⟩ := (HK.out _ HB2.out).2.1.facts
  cases r with
  | true =>
    go_wp2
    go_ret
    exact ⟨rfl, (HK.out _ HB2.out).2.2⟩
  | false =>
    have HG2 := Lib.hid (HG.out rfl)
    clear HG
    by_cases h2 : ∃ t : Ex, t.may 32 256 ∧ t.wf ∧ t.szd ∧ Tg w t u
    · obtain ⟨t, hm, hw, hs, hg⟩ := h2
      have HTR : Hid (t.may 32 256 ∧ t.wf ∧ t.szd ∧ Tg w t u ∧ t.nodes ≤ 111) := ⟨hm, hw, hs, hg, by have h5 := tg_nodes t kf L0 u hg hl.out.1; have h6 := hl.out.2; omega⟩
      clear hm hw hs hg
      go_wp2_with fail
      refine (IsT_c HTR.out.1 HTR.out.2.1 HTR.out.2.2.1 HTR.out.2.2.2.1 (HK.out _ HB2.out).2.2).mono ?_
      rintro e w3 ⟨rfl, hb⟩
      have HB3 := Lib.hid (HB2.out.trans (hb.mono HB2.out.size))
      clear hb e0 e1 e2 e3 e4 e5 v0 v1 v2 HB2
      obtain ⟨e0, e1, e2, e3, e4, e5⟩ := (HK.out _ HB3.out).1.facts
      obtain ⟨v0, v1, v2⟩ := (HK.out _ HB3.out).2.1.facts
      go_wp2_with fail
      refine (Names_c t HTR.out.1.1 HTR.out.2.1 HTR.out.2.2.2.2 u _ HTR.out.2.2.2.1 (HK.out _ HB3.out).2.2).mono ?_
      rintro e w4 ⟨A, n, c, ln, rfl, hown, heq, hsz, hcnt, hcap, hb⟩
      have HB4 := Lib.hid (HB3.out.trans (hb.mono HB3.out.size))
      have HNM := Lib.hid (And.intro (hown.strs hsz) heq)
      have HN9 : Hid (n ≤ 111) := by have := HTR.out.2.2.2.2; show n ≤ 111; omega
      have HOW := Lib.hid hown
      have n0 : (0 : Int) ≤ (n : Int) := by omega
      have n9 : (n : Int) ≤ 111 := by have := HN9.out; omega
      clear hb e0 e1 e2 e3 e4 e5 v0 v1 v2 HB3 hown heq hsz hcnt hR
      obtain ⟨L, hL⟩ : ∃ L, Hid (EnvOk w v ss ns L ∧ ∀ i, Sz (atV L i) 17) := by
        obtain ⟨L, hL⟩ := rdv_ex (p := 3) l (fun x hx => ⟨(HALL.out.2.2.2.2.1 x hx).1, (HG2.out.2.2.2 x hx).1, (HG2.out.2.2.2 x hx).2⟩)
        have h1 := HG2.out
        exact ⟨L, ⟨HALL.out.2.1, HALL.out.2.2.1, ⟨l, HALL.out.2.2.2.1, hL.more (by omega)⟩, by omega, by omega, by omega⟩, fun i => hL.szAt i⟩
      go_wp2
      go_loopw [5, 7] (fun av iv wr => ∃ i : Nat, i ≤ n ∧ iv = .int .i64 i ∧ av = .bool ((ln.take i).all (okB ss ns)) ∧ Hid (Below w4.heap.size w4 wr)) (fun _ iv _ => n - (intOf iv).toNat)
      case atStart => exact ⟨0, by omega, rfl, rfl, Lib.hid (Below.refl _ _)⟩
      case round =>
        obtain ⟨i, hi, rfl, rfl, HBR⟩ := hrel
        have i0 : (0 : Int) ≤ (i : Int) := by omega
        have HB5 := Lib.hid (HB4.out.trans (HBR.out.mono HB4.out.size))
        by_cases hlt : i < n
        · have i1 : (i : Int) < (n : Int) := by omega
          obtain ⟨bl, hA, _, hbl, hcell⟩ := HOW.out.mem (by omega)
          obtain ⟨x, hx⟩ : ∃ x, ln[i]? = some x := ⟨_, List.getElem?_eq_getElem (by rw [HOW.out.len]; omega)⟩
          have x0 := (World.cell?_of_block (HBR.out.block bl hbl)).trans (hcell i x hx)
          rw [Nat.zero_add] at x0
          have HST := Lib.hid (all_snoc ss ns ln i x hx)
          subst hA
          have HE8 : Hid (Strs wr.drew v.VA v.vn ss ∧ Strs wr.drew v.NA v.nn ns ∧ v.vn ≤ 1000000 ∧ v.nn ≤ 1000000) := ⟨(HALL.out.2.1.below (HK.out _ HB5.out).2.2).below (bel1 wr), (HALL.out.2.2.1.below (HK.out _ HB5.out).2.2).below (bel1 wr), by have := HG2.out; omega, by have := HG2.out; omega⟩
          obtain ⟨v0, v1, v2⟩ := (HK.out _ HB5.out).2.1.facts
          clear hcell hx
          cases ha : (ln.take i).all (okB ss ns) with
          | false =>
            have HA0 := Lib.hid ha
            clear ha
            go_wp2_with fail
            refine wp_region_held_drew (S := fun w' => w'.cell? ⟨w.heap.size + 1, 0, none⟩ = some (.slice v.VA v.vn v.vc) ∧ w'.cell? ⟨w.heap.size + 1, 1, none⟩ = some (.slice v.NA v.nn v.nc) ∧ w'.cell? ⟨bl, i, none⟩ = some (.string x)) (by kernel_rfl) ?_ (fun hHeld => ?_)
            · (try dsimp only)
              go_keep
            refine wpAnyH_take (i := 0) (oi := { dst := some 32, op := Op.move (Operand.tmp 5), type := 4, pos := "more.go:33", after := #[], guard := none }) (v := ?va0) rfl (by kernel_rfl) (by kernel_rfl) (by kernel_rfl) (fun _ _ _ h => h) (Or.inl ⟨by rfl, ?hya0⟩) (by assumption) ?resta0
            case hya0 =>
              intro w hSw
              (try dsimp only at hSw)
              go_simp
              all_goals (with_reducible rfl)
            try simp only [Act.put, List.setIfInBounds_toArray, List.set_cons_zero, List.set_cons_succ]
            refine wpAnyH_take (i := 1) (oi := { dst := some 33, op := Op.move (Operand.tmp 32), type := 4, pos := "more.go:33", after := #[{ on := 0, ground := Ground.data }], guard := none }) (v := ?va1) rfl (by kernel_rfl) (by kernel_rfl) (by kernel_rfl) (fun _ _ _ h => h) (Or.inl ⟨by rfl, ?hya1⟩) (by assumption) ?resta1
            case hya1 =>
              intro w hSw
              (try dsimp only at hSw)
              go_simp
              all_goals (with_reducible rfl)
            try simp only [Act.put, List.setIfInBounds_toArray, List.set_cons_zero, List.set_cons_succ]
            refine wpAnyH_take (i := 2) (oi := { dst := some 34, op := Op.fieldAddr 31 (Operand.tmp 3) 0, type := 0, pos := "more.go:33", after := #[{ on := 1, ground := Ground.guard }], guard := some (1, true) }) (v := undef) rfl (by kernel_rfl) (by kernel_rfl) (by kernel_rfl) (fun _ _ _ h => h) (Or.inr ⟨by rfl, rfl⟩) (by assumption) ?_
            try simp only [Act.put, List.setIfInBounds_toArray, List.set_cons_zero, List.set_cons_succ]
            refine wpAnyH_take (i := 3) (oi := { dst := some 35, op := Op.load 28 (Operand.tmp 34), type := 28, pos := "more.go:33", after := #[{ on := 2, ground := Ground.data }, { on := 1, ground := Ground.guard }], guard := some (1, true) }) (v := undef) rfl (by kernel_rfl) (by kernel_rfl) (by kernel_rfl) (fun _ _ _ h => h) (Or.inr ⟨by rfl, rfl⟩) (by assumption) ?_
            try simp only [Act.put, List.setIfInBounds_toArray, List.set_cons_zero, List.set_cons_succ]
            refine wpAnyH_take (i := 4) (oi := { dst := some 36, op := Op.move (Operand.tmp 6), type := 28, pos := "more.go:33", after := #[{ on := 1, ground := Ground.guard }], guard := some (1, true) }) (v := undef) rfl (by kernel_rfl) (by kernel_rfl) (by kernel_rfl) (fun _ _ _ h => h) (Or.inr ⟨by rfl, rfl⟩) (by assumption) ?_
            try simp only [Act.put, List.setIfInBounds_toArray, List.set_cons_zero, List.set_cons_succ]
            refine wpAnyH_take (i := 5) (oi := { dst := some 37, op := Op.move (Operand.tmp 7), type := 3, pos := "more.go:33", after := #[{ on := 1, ground := Ground.guard }], guard := some (1, true) }) (v := undef) rfl (by kernel_rfl) (by kernel_rfl) (by kernel_rfl) (fun _ _ _ h => h) (Or.inr ⟨by rfl, rfl⟩) (by assumption) ?_
            try simp only [Act.put, List.setIfInBounds_toArray, List.set_cons_zero, List.set_cons_succ]
            refine wpAnyH_take (i := 6) (oi := { dst := some 38, op := Op.indexAddr 28 (Operand.tmp 36) (Operand.tmp 37), type := 0, pos := "more.go:33", after := #[{ on := 4, ground := Ground.data }, { on := 5, ground := Ground.data }, { on := 1, ground := Ground.guard }], guard := some (1, true) }) (v := undef) rfl (by kernel_rfl) (by kernel_rfl) (by kernel_rfl) (fun _ _ _ h => h) (Or.inr ⟨by rfl, rfl⟩) (by assumption) ?_
            try simp only [Act.put, List.setIfInBounds_toArray, List.set_cons_zero, List.set_cons_succ]
            refine wpAnyH_take (i := 7) (oi := { dst := some 39, op := Op.load 9 (Operand.tmp 38), type := 9, pos := "more.go:33", after := #[{ on := 6, ground := Ground.data }, { on := 1, ground := Ground.guard }], guard := some (1, true) }) (v := undef) rfl (by kernel_rfl) (by kernel_rfl) (by kernel_rfl) (fun _ _ _ h => h) (Or.inr ⟨by rfl, rfl⟩) (by assumption) ?_
            try simp only [Act.put, List.setIfInBounds_toArray, List.set_cons_zero, List.set_cons_succ]
            refine wpAnyH_take (i := 8) (oi := { dst := some 40, op := Op.call { callee := Callee.value (Operand.func 8), args := #[Operand.tmp 35, Operand.tmp 39], argTypes := #[28, 9] }, type := 4, pos := "more.go:33", after := #[{ on := 3, ground := Ground.data }, { on := 7, ground := Ground.data }, { on := 1, ground := Ground.chain }, { on := 1, ground := Ground.guard }], guard := some (1, true) }) (v := undef) rfl (by kernel_rfl) (by kernel_rfl) (by kernel_rfl) (fun _ _ _ h => h) (Or.inr ⟨by rfl, rfl⟩) (by assumption) ?_
            try simp only [Act.put, List.setIfInBounds_toArray, List.set_cons_zero, List.set_cons_succ]
            refine wpAnyH_take (i := 9) (oi := { dst := some 41, op := Op.move (Operand.tmp 40), type := 4, pos := "more.go:33", after := #[{ on := 8, ground := Ground.data }, { on := 8, ground := Ground.chain }, { on := 1, ground := Ground.guard }], guard := some (1, true) }) (v := undef) rfl (by kernel_rfl) (by kernel_rfl) (by kernel_rfl) (fun _ _ _ h => h) (Or.inr ⟨by rfl, rfl⟩) (by assumption) ?_
            try simp only [Act.put, List.setIfInBounds_toArray, List.set_cons_zero, List.set_cons_succ]
            refine wpAnyH_take (i := 10) (oi := { dst := some 42, op := Op.fieldAddr 31 (Operand.tmp 3) 1, type := 0, pos := "more.go:33", after := #[{ on := 9, ground := Ground.guard }], guard := some (9, false) }) (v := undef) rfl (by kernel_rfl) (by kernel_rfl) (by kernel_rfl) (fun _ _ _ h => h) (Or.inr ⟨by rfl, rfl⟩) (by assumption) ?_
            try simp only [Act.put, List.setIfInBounds_toArray, List.set_cons_zero, List.set_cons_succ]
            refine wpAnyH_take (i := 11) (oi := { dst := some 43, op := Op.load 28 (Operand.tmp 42), type := 28, pos := "more.go:33", after := #[{ on := 10, ground := Ground.data }, { on := 9, ground := Ground.guard }], guard := some (9, false) }) (v := undef) rfl (by kernel_rfl) (by kernel_rfl) (by kernel_rfl) (fun _ _ _ h => h) (Or.inr ⟨by rfl, rfl⟩) (by assumption) ?_
            try simp only [Act.put, List.setIfInBounds_toArray, List.set_cons_zero, List.set_cons_succ]
            refine wpAnyH_take (i := 12) (oi := { dst := some 44, op := Op.move (Operand.tmp 6), type := 28, pos := "more.go:33", after := #[{ on := 9, ground := Ground.guard }], guard := some (9, false) }) (v := undef) rfl (by kernel_rfl) (by kernel_rfl) (by kernel_rfl) (fun _ _ _ h => h) (Or.inr ⟨by rfl, rfl⟩) (by assumption) ?_
            try simp only [Act.put, List.setIfInBounds_toArray, List.set_cons_zero, List.set_cons_succ]
            refine wpAnyH_take (i := 13) (oi := { dst := some 45, op := Op.move (Operand.tmp 7), type := 3, pos := "more.go:33", after := #[{ on := 9, ground := Ground.guard }], guard := some (9, false) }) (v := undef) rfl (by kernel_rfl) (by kernel_rfl) (by kernel_rfl) (fun _ _ _ h => h) (Or.inr ⟨by rfl, rfl⟩) (by assumption) ?_
            try simp only [Act.put, List.setIfInBounds_toArray, List.set_cons_zero, List.set_cons_succ]
            refine wpAnyH_take (i := 14) (oi := { dst := some 46, op := Op.indexAddr 28 (Operand.tmp 44) (Operand.tmp 45), type := 0, pos := "more.go:33", after := #[{ on := 12, ground := Ground.data }, { on := 13, ground := Ground.data }, { on := 9, ground := Ground.guard }], guard := some (9, false) }) (v := undef) rfl (by kernel_rfl) (by kernel_rfl) (by kernel_rfl) (fun _ _ _ h => h) (Or.inr ⟨by rfl, rfl⟩) (by assumption) ?_
            try simp only [Act.put, List.setIfInBounds_toArray, List.set_cons_zero, List.set_cons_succ]
            refine wpAnyH_take (i := 15) (oi := { dst := some 47, op := Op.load 9 (Operand.tmp 46), type := 9, pos := "more.go:33", after := #[{ on := 14, ground := Ground.data }, { on := 9, ground := Ground.guard }], guard := some (9, false) }) (v := undef) rfl (by kernel_rfl) (by kernel_rfl) (by kernel_rfl) (fun _ _ _ h => h) (Or.inr ⟨by rfl, rfl⟩) (by assumption) ?_
            try simp only [Act.put, List.setIfInBounds_toArray, List.set_cons_zero, List.set_cons_succ]
            refine wpAnyH_take (i := 16) (oi := { dst := some 48, op := Op.call { callee := Callee.value (Operand.func 8), args := #[Operand.tmp 43, Operand.tmp 47], argTypes := #[28, 9] }, type := 4, pos := "more.go:33", after := #[{ on := 11, ground := Ground.data }, { on := 15, ground := Ground.data }, { on := 9, ground := Ground.chain }, { on := 9, ground := Ground.guard }], guard := some (9, false) }) (v := undef) rfl (by kernel_rfl) (by kernel_rfl) (by kernel_rfl) (fun _ _ _ h => h) (Or.inr ⟨by rfl, rfl⟩) (by assumption) ?_
            try simp only [Act.put, List.setIfInBounds_toArray, List.set_cons_zero, List.set_cons_succ]
            refine wpAnyH_take (i := 17) (oi := { dst := some 49, op := Op.pick (Operand.tmp 41) (Operand.const (Value.bool true)) (Operand.tmp 48), type := 4, pos := "more.go:33", after := #[{ on := 9, ground := Ground.data }, { on := 16, ground := Ground.data }, { on := 1, ground := Ground.guard }], guard := some (1, true) }) (v := undef) rfl (by kernel_rfl) (by kernel_rfl) (by kernel_rfl) (fun _ _ _ h => h) (Or.inr ⟨by rfl, rfl⟩) (by assumption) ?_
            try simp only [Act.put, List.setIfInBounds_toArray, List.set_cons_zero, List.set_cons_succ]
            refine wpAnyH_take (i := 18) (oi := { dst := some 50, op := Op.pick (Operand.tmp 33) (Operand.tmp 49) (Operand.const (Value.bool false)), type := 4, pos := "more.go:33", after := #[{ on := 1, ground := Ground.data }, { on := 17, ground := Ground.data }], guard := none }) (v := ?va18) rfl (by kernel_rfl) (by kernel_rfl) (by kernel_rfl) (fun _ _ _ h => h) (Or.inl ⟨by rfl, ?hya18⟩) (by assumption) ?resta18
            case hya18 =>
              intro w hSw
              (try dsimp only at hSw)
              go_simp
              all_goals (with_reducible rfl)
            try simp only [Act.put, List.setIfInBounds_toArray, List.set_cons_zero, List.set_cons_succ]
            refine wpAnyH_take (i := 19) (oi := { dst := some 5, op := Op.assign (Operand.tmp 50), type := 4, pos := "more.go:33", after := #[{ on := 18, ground := Ground.data }, { on := 16, ground := Ground.chain }, { on := 0, ground := Ground.phase }, { on := 1, ground := Ground.phase }, { on := 2, ground := Ground.phase }, { on := 3, ground := Ground.phase }, { on := 4, ground := Ground.phase }, { on := 5, ground := Ground.phase }, { on := 6, ground := Ground.phase }, { on := 7, ground := Ground.phase }, { on := 8, ground := Ground.phase }, { on := 9, ground := Ground.phase }, { on := 10, ground := Ground.phase }, { on := 11, ground := Ground.phase }, { on := 12, ground := Ground.phase }, { on := 13, ground := Ground.phase }, { on := 14, ground := Ground.phase }, { on := 15, ground := Ground.phase }, { on := 16, ground := Ground.phase }, { on := 17, ground := Ground.phase }, { on := 18, ground := Ground.phase }], guard := none }) (v := ?va19) rfl (by kernel_rfl) (by kernel_rfl) (by kernel_rfl) (fun _ _ _ h => h) (Or.inl ⟨by rfl, ?hya19⟩) (by assumption) ?resta19
            case hya19 =>
              intro w hSw
              (try dsimp only at hSw)
              go_simp
              all_goals (with_reducible rfl)
            try simp only [Act.put, List.setIfInBounds_toArray, List.set_cons_zero, List.set_cons_succ]
            refine wpAnyH_done (by kernel_rfl) ?_ _
            go_wp2
            go_roundw
            case rel => exact ⟨i + 1, by omega, by go_num, by rw [HST.out, HA0.out]; rfl, Lib.hid (HBR.out.trans ((bel1 wr).mono HBR.out.size))⟩
            case measure => simp [intOf]; omega
          | true =>
            have HA0 := Lib.hid ha
            clear ha
            cases h1 : (ixB x ss).isSome with
            | true =>
              have H1 := Lib.hid h1
              clear h1
              go_wp2_with fail
              refine wp_region_held_drew (S := fun w' => w'.cell? ⟨w.heap.size + 1, 0, none⟩ = some (.slice v.VA v.vn v.vc) ∧ w'.cell? ⟨w.heap.size + 1, 1, none⟩ = some (.slice v.NA v.nn v.nc) ∧ w'.cell? ⟨bl, i, none⟩ = some (.string x)) (by kernel_rfl) ?_ (fun hHeld => ?_)
              · (try dsimp only)
                go_keep
              refine wpAnyH_take (i := 0) (oi := { dst := some 32, op := Op.move (Operand.tmp 5), type := 4, pos := "more.go:33", after := #[], guard := none }) (v := ?vb0) rfl (by kernel_rfl) (by kernel_rfl) (by kernel_rfl) (fun _ _ _ h => h) (Or.inl ⟨by rfl, ?hyb0⟩) (by assumption) ?restb0
              case hyb0 =>
                intro w hSw
                (try dsimp only at hSw)
                go_simp
                all_goals (with_reducible rfl)
              try simp only [Act.put, List.setIfInBounds_toArray, List.set_cons_zero, List.set_cons_succ]
              refine wpAnyH_take (i := 1) (oi := { dst := some 33, op := Op.move (Operand.tmp 32), type := 4, pos := "more.go:33", after := #[{ on := 0, ground := Ground.data }], guard := none }) (v := ?vb1) rfl (by kernel_rfl) (by kernel_rfl) (by kernel_rfl) (fun _ _ _ h => h) (Or.inl ⟨by rfl, ?hyb1⟩) (by assumption) ?restb1
              case hyb1 =>
                intro w hSw
                (try dsimp only at hSw)
                go_simp
                all_goals (with_reducible rfl)
              try simp only [Act.put, List.setIfInBounds_toArray, List.set_cons_zero, List.set_cons_succ]
              refine wpAnyH_take (i := 2) (oi := { dst := some 34, op := Op.fieldAddr 31 (Operand.tmp 3) 0, type := 0, pos := "more.go:33", after := #[{ on := 1, ground := Ground.guard }], guard := some (1, true) }) (v := ?vb2) rfl (by kernel_rfl) (by kernel_rfl) (by kernel_rfl) (fun _ _ _ h => h) (Or.inl ⟨by rfl, ?hyb2⟩) (by assumption) ?restb2
              case hyb2 =>
                intro w hSw
                (try dsimp only at hSw)
                go_simp
                all_goals (with_reducible rfl)
              try simp only [Act.put, List.setIfInBounds_toArray, List.set_cons_zero, List.set_cons_succ]
              refine wpAnyH_take (i := 3) (oi := { dst := some 35, op := Op.load 28 (Operand.tmp 34), type := 28, pos := "more.go:33", after := #[{ on := 2, ground := Ground.data }, { on := 1, ground := Ground.guard }], guard := some (1, true) }) (v := ?vb3) rfl (by kernel_rfl) (by kernel_rfl) (by kernel_rfl) (fun _ _ _ h => h) (Or.inl ⟨by rfl, ?hyb3⟩) (by assumption) ?restb3
              case hyb3 =>
                intro w hSw
                (try dsimp only at hSw)
                go_simp
                all_goals (with_reducible rfl)
              try simp only [Act.put, List.setIfInBounds_toArray, List.set_cons_zero, List.set_cons_succ]
              refine wpAnyH_take (i := 4) (oi := { dst := some 36, op := Op.move (Operand.tmp 6), type := 28, pos := "more.go:33", after := #[{ on := 1, ground := Ground.guard }], guard := some (1, true) }) (v := ?vb4) rfl (by kernel_rfl) (by kernel_rfl) (by kernel_rfl) (fun _ _ _ h => h) (Or.inl ⟨by rfl, ?hyb4⟩) (by assumption) ?restb4
              case hyb4 =>
                intro w hSw
                (try dsimp only at hSw)
                go_simp
                all_goals (with_reducible rfl)
              try simp only [Act.put, List.setIfInBounds_toArray, List.set_cons_zero, List.set_cons_succ]
              refine wpAnyH_take (i := 5) (oi := { dst := some 37, op := Op.move (Operand.tmp 7), type := 3, pos := "more.go:33", after := #[{ on := 1, ground := Ground.guard }], guard := some (1, true) }) (v := ?vb5) rfl (by kernel_rfl) (by kernel_rfl) (by kernel_rfl) (fun _ _ _ h => h) (Or.inl ⟨by rfl, ?hyb5⟩) (by assumption) ?restb5
              case hyb5 =>
                intro w hSw
                (try dsimp only at hSw)
                go_simp
                all_goals (with_reducible rfl)
              try simp only [Act.put, List.setIfInBounds_toArray, List.set_cons_zero, List.set_cons_succ]
              refine wpAnyH_take (i := 6) (oi := { dst := some 38, op := Op.indexAddr 28 (Operand.tmp 36) (Operand.tmp 37), type := 0, pos := "more.go:33", after := #[{ on := 4, ground := Ground.data }, { on := 5, ground := Ground.data }, { on := 1, ground := Ground.guard }], guard := some (1, true) }) (v := ?vb6) rfl (by kernel_rfl) (by kernel_rfl) (by kernel_rfl) (fun _ _ _ h => h) (Or.inl ⟨by rfl, ?hyb6⟩) (by assumption) ?restb6
              case hyb6 =>
                intro w hSw
                (try dsimp only at hSw)
                go_simp
                all_goals (with_reducible rfl)
              try simp only [Act.put, List.setIfInBounds_toArray, List.set_cons_zero, List.set_cons_succ]
              refine wpAnyH_take (i := 7) (oi := { dst := some 39, op := Op.load 9 (Operand.tmp 38), type := 9, pos := "more.go:33", after := #[{ on := 6, ground := Ground.data }, { on := 1, ground := Ground.guard }], guard := some (1, true) }) (v := ?vb7) rfl (by kernel_rfl) (by kernel_rfl) (by kernel_rfl) (fun _ _ _ h => h) (Or.inl ⟨by rfl, ?hyb7⟩) (by assumption) ?restb7
              case hyb7 =>
                intro w hSw
                (try dsimp only at hSw)
                go_simp
                all_goals (with_reducible rfl)
              try simp only [Act.put, List.setIfInBounds_toArray, List.set_cons_zero, List.set_cons_succ]
              refine wpAnyH_ready (rs := [8]) (by kernel_rfl) (by simp) ?_
              refine AllReadyH.cons (o := { dst := some 40, op := Op.call { callee := Callee.value (Operand.func 8), args := #[Operand.tmp 35, Operand.tmp 39], argTypes := #[28, 9] }, type := 4, pos := "more.go:33", after := #[{ on := 3, ground := Ground.data }, { on := 7, ground := Ground.data }, { on := 1, ground := Ground.chain }, { on := 1, ground := Ground.guard }], guard := some (1, true) }) rfl (fun K hK => ?_) AllReadyH.nil
              go_simp
              refine (rHas_c v.VA v.vn v.vc ss x _ (HE8.out.1) HE8.out.2.2.1).mono ?_
              rintro e9 w9 ⟨rfl, rfl⟩
              rw [H1.out]
              try go_wp2_with fail
              refine hK.out _ _ ?_ (fun hHeld => ?_)
              · (try dsimp only)
                go_keep
              clear hK K
              try simp only [Act.put, List.setIfInBounds_toArray, List.set_cons_zero, List.set_cons_succ]
              refine wpAnyH_take (i := 9) (oi := { dst := some 41, op := Op.move (Operand.tmp 40), type := 4, pos := "more.go:33", after := #[{ on := 8, ground := Ground.data }, { on := 8, ground := Ground.chain }, { on := 1, ground := Ground.guard }], guard := some (1, true) }) (v := ?vb9) rfl (by kernel_rfl) (by kernel_rfl) (by kernel_rfl) (fun _ _ _ h => h) (Or.inl ⟨by rfl, ?hyb9⟩) (by assumption) ?restb9
              case hyb9 =>
                intro w hSw
                (try dsimp only at hSw)
                go_simp
                all_goals (with_reducible rfl)
              try simp only [Act.put, List.setIfInBounds_toArray, List.set_cons_zero, List.set_cons_succ]
              refine wpAnyH_take (i := 10) (oi := { dst := some 42, op := Op.fieldAddr 31 (Operand.tmp 3) 1, type := 0, pos := "more.go:33", after := #[{ on := 9, ground := Ground.guard }], guard := some (9, false) }) (v := undef) rfl (by kernel_rfl) (by kernel_rfl) (by kernel_rfl) (fun _ _ _ h => h) (Or.inr ⟨by rfl, rfl⟩) (by assumption) ?_
              try simp only [Act.put, List.setIfInBounds_toArray, List.set_cons_zero, List.set_cons_succ]
              refine wpAnyH_take (i := 11) (oi := { dst := some 43, op := Op.load 28 (Operand.tmp 42), type := 28, pos := "more.go:33", after := #[{ on := 10, ground := Ground.data }, { on := 9, ground := Ground.guard }], guard := some (9, false) }) (v := undef) rfl (by kernel_rfl) (by kernel_rfl) (by kernel_rfl) (fun _ _ _ h => h) (Or.inr ⟨by rfl, rfl⟩) (by assumption) ?_
              try simp only [Act.put, List.setIfInBounds_toArray, List.set_cons_zero, List.set_cons_succ]
              refine wpAnyH_take (i := 12) (oi := { dst := some 44, op := Op.move (Operand.tmp 6), type := 28, pos := "more.go:33", after := #[{ on := 9, ground := Ground.guard }], guard := some (9, false) }) (v := undef) rfl (by kernel_rfl) (by kernel_rfl) (by kernel_rfl) (fun _ _ _ h => h) (Or.inr ⟨by rfl, rfl⟩) (by assumption) ?_
              try simp only [Act.put, List.setIfInBounds_toArray, List.set_cons_zero, List.set_cons_succ]
              refine wpAnyH_take (i := 13) (oi := { dst := some 45, op := Op.move (Operand.tmp 7), type := 3, pos := "more.go:33", after := #[{ on := 9, ground := Ground.guard }], guard := some (9, false) }) (v := undef) rfl (by kernel_rfl) (by kernel_rfl) (by kernel_rfl) (fun _ _ _ h => h) (Or.inr ⟨by rfl, rfl⟩) (by assumption) ?_
              try simp only [Act.put, List.setIfInBounds_toArray, List.set_cons_zero, List.set_cons_succ]
              refine wpAnyH_take (i := 14) (oi := { dst := some 46, op := Op.indexAddr 28 (Operand.tmp 44) (Operand.tmp 45), type := 0, pos := "more.go:33", after := #[{ on := 12, ground := Ground.data }, { on := 13, ground := Ground.data }, { on := 9, ground := Ground.guard }], guard := some (9, false) }) (v := undef) rfl (by kernel_rfl) (by kernel_rfl) (by kernel_rfl) (fun _ _ _ h => h) (Or.inr ⟨by rfl, rfl⟩) (by assumption) ?_
              try simp only [Act.put, List.setIfInBounds_toArray, List.set_cons_zero, List.set_cons_succ]
              refine wpAnyH_take (i := 15) (oi := { dst := some 47, op := Op.load 9 (Operand.tmp 46), type := 9, pos := "more.go:33", after := #[{ on := 14, ground := Ground.data }, { on := 9, ground := Ground.guard }], guard := some (9, false) }) (v := undef) rfl (by kernel_rfl) (by kernel_rfl) (by kernel_rfl) (fun _ _ _ h => h) (Or.inr ⟨by rfl, rfl⟩) (by assumption) ?_
              try simp only [Act.put, List.setIfInBounds_toArray, List.set_cons_zero, List.set_cons_succ]
              refine wpAnyH_take (i := 16) (oi := { dst := some 48, op := Op.call { callee := Callee.value (Operand.func 8), args := #[Operand.tmp 43, Operand.tmp 47], argTypes := #[28, 9] }, type := 4, pos := "more.go:33", after := #[{ on := 11, ground := Ground.data }, { on := 15, ground := Ground.data }, { on := 9, ground := Ground.chain }, { on := 9, ground := Ground.guard }], guard := some (9, false) }) (v := undef) rfl (by kernel_rfl) (by kernel_rfl) (by kernel_rfl) (fun _ _ _ h => h) (Or.inr ⟨by rfl, rfl⟩) (by assumption) ?_
              try simp only [Act.put, List.setIfInBounds_toArray, List.set_cons_zero, List.set_cons_succ]
              refine wpAnyH_take (i := 17) (oi := { dst := some 49, op := Op.pick (Operand.tmp 41) (Operand.const (Value.bool true)) (Operand.tmp 48), type := 4, pos := "more.go:33", after := #[{ on := 9, ground := Ground.data }, { on := 16, ground := Ground.data }, { on := 1, ground := Ground.guard }], guard := some (1, true) }) (v := ?vb17) rfl (by kernel_rfl) (by kernel_rfl) (by kernel_rfl) (fun _ _ _ h => h) (Or.inl ⟨by rfl, ?hyb17⟩) (by assumption) ?restb17
              case hyb17 =>
                intro w hSw
                (try dsimp only at hSw)
                go_simp
                all_goals (with_reducible rfl)
              try simp only [Act.put, List.setIfInBounds_toArray, List.set_cons_zero, List.set_cons_succ]
              refine wpAnyH_take (i := 18) (oi := { dst := some 50, op := Op.pick (Operand.tmp 33) (Operand.tmp 49) (Operand.const (Value.bool false)), type := 4, pos := "more.go:33", after := #[{ on := 1, ground := Ground.data }, { on := 17, ground := Ground.data }], guard := none }) (v := ?vb18) rfl (by kernel_rfl) (by kernel_rfl) (by kernel_rfl) (fun _ _ _ h => h) (Or.inl ⟨by rfl, ?hyb18⟩) (by assumption) ?restb18
              case hyb18 =>
                intro w hSw
                (try dsimp only at hSw)
                go_simp
                all_goals (with_reducible rfl)
              try simp only [Act.put, List.setIfInBounds_toArray, List.set_cons_zero, List.set_cons_succ]
              refine wpAnyH_take (i := 19) (oi := { dst := some 5, op := Op.assign (Operand.tmp 50), type := 4, pos := "more.go:33", after := #[{ on := 18, ground := Ground.data }, { on := 16, ground := Ground.chain }, { on := 0, ground := Ground.phase }, { on := 1, ground := Ground.phase }, { on := 2, ground := Ground.phase }, { on := 3, ground := Ground.phase }, { on := 4, ground := Ground.phase }, { on := 5, ground := Ground.phase }, { on := 6, ground := Ground.phase }, { on := 7, ground := Ground.phase }, { on := 8, ground := Ground.phase }, { on := 9, ground := Ground.phase }, { on := 10, ground := Ground.phase }, { on := 11, ground := Ground.phase }, { on := 12, ground := Ground.phase }, { on := 13, ground := Ground.phase }, { on := 14, ground := Ground.phase }, { on := 15, ground := Ground.phase }, { on := 16, ground := Ground.phase }, { on := 17, ground := Ground.phase }, { on := 18, ground := Ground.phase }], guard := none }) (v := ?vb19) rfl (by kernel_rfl) (by kernel_rfl) (by kernel_rfl) (fun _ _ _ h => h) (Or.inl ⟨by rfl, ?hyb19⟩) (by assumption) ?restb19
              case hyb19 =>
                intro w hSw
                (try dsimp only at hSw)
                go_simp
                all_goals (with_reducible rfl)
              try simp only [Act.put, List.setIfInBounds_toArray, List.set_cons_zero, List.set_cons_succ]
              refine wpAnyH_done (by kernel_rfl) ?_ _
              go_wp2
              go_roundw
              case rel => exact ⟨i + 1, by omega, by go_num, by rw [HST.out, HA0.out]; unfold okB; rw [H1.out]; rfl, Lib.hid (HBR.out.trans ((bel1 wr).mono HBR.out.size))⟩
              case measure => simp [intOf]; omega
            | false =>
              have H1 := Lib.hid h1
              clear h1
              obtain ⟨q, hq⟩ : ∃ q, (ixB x ns).isSome = q := ⟨_, rfl⟩
              have H2 := Lib.hid hq
              clear hq
              go_wp2_with fail
              refine wp_region_held_drew (S := fun w' => w'.cell? ⟨w.heap.size + 1, 0, none⟩ = some (.slice v.VA v.vn v.vc) ∧ w'.cell? ⟨w.heap.size + 1, 1, none⟩ = some (.slice v.NA v.nn v.nc) ∧ w'.cell? ⟨bl, i, none⟩ = some (.string x)) (by kernel_rfl) ?_ (fun hHeld => ?_)
              · (try dsimp only)
                go_keep
              refine wpAnyH_take (i := 0) (oi := { dst := some 32, op := Op.move (Operand.tmp 5), type := 4, pos := "more.go:33", after := #[], guard := none }) (v := ?vc0) rfl (by kernel_rfl) (by kernel_rfl) (by kernel_rfl) (fun _ _ _ h => h) (Or.inl ⟨by rfl, ?hyc0⟩) (by assumption) ?restc0
              case hyc0 =>
                intro w hSw
                (try dsimp only at hSw)
                go_simp
                all_goals (with_reducible rfl)
              try simp only [Act.put, List.setIfInBounds_toArray, List.set_cons_zero, List.set_cons_succ]
              refine wpAnyH_take (i := 1) (oi := { dst := some 33, op := Op.move (Operand.tmp 32), type := 4, pos := "more.go:33", after := #[{ on := 0, ground := Ground.data }], guard := none }) (v := ?vc1) rfl (by kernel_rfl) (by kernel_rfl) (by kernel_rfl) (fun _ _ _ h => h) (Or.inl ⟨by rfl, ?hyc1⟩) (by assumption) ?restc1
              case hyc1 =>
                intro w hSw
                (try dsimp only at hSw)
                go_simp
                all_goals (with_reducible rfl)
              try simp only [Act.put, List.setIfInBounds_toArray, List.set_cons_zero, List.set_cons_succ]
              refine wpAnyH_take (i := 2) (oi := { dst := some 34, op := Op.fieldAddr 31 (Operand.tmp 3) 0, type := 0, pos := "more.go:33", after := #[{ on := 1, ground := Ground.guard }], guard := some (1, true) }) (v := ?vc2) rfl (by kernel_rfl) (by kernel_rfl) (by kernel_rfl) (fun _ _ _ h => h) (Or.inl ⟨by rfl, ?hyc2⟩) (by assumption) ?restc2
              case hyc2 =>
                intro w hSw
                (try dsimp only at hSw)
                go_simp
                all_goals (with_reducible rfl)
              try simp only [Act.put, List.setIfInBounds_toArray, List.set_cons_zero, List.set_cons_succ]
              refine wpAnyH_take (i := 3) (oi := { dst := some 35, op := Op.load 28 (Operand.tmp 34), type := 28, pos := "more.go:33", after := #[{ on := 2, ground := Ground.data }, { on := 1, ground := Ground.guard }], guard := some (1, true) }) (v := ?vc3) rfl (by kernel_rfl) (by kernel_rfl) (by kernel_rfl) (fun _ _ _ h => h) (Or.inl ⟨by rfl, ?hyc3⟩) (by assumption) ?restc3
              case hyc3 =>
                intro w hSw
                (try dsimp only at hSw)
                go_simp
                all_goals (with_reducible rfl)
              try simp only [Act.put, List.setIfInBounds_toArray, List.set_cons_zero, List.set_cons_succ]
              refine wpAnyH_take (i := 4) (oi := { dst := some 36, op := Op.move (Operand.tmp 6), type := 28, pos := "more.go:33", after := #[{ on := 1, ground := Ground.guard }], guard := some (1, true) }) (v := ?vc4) rfl (by kernel_rfl) (by kernel_rfl) (by kernel_rfl) (fun _ _ _ h => h) (Or.inl ⟨by rfl, ?hyc4⟩) (by assumption) ?restc4
              case hyc4 =>
                intro w hSw
                (try dsimp only at hSw)
                go_simp
                all_goals (with_reducible rfl)
              try simp only [Act.put, List.setIfInBounds_toArray, List.set_cons_zero, List.set_cons_succ]
              refine wpAnyH_take (i := 5) (oi := { dst := some 37, op := Op.move (Operand.tmp 7), type := 3, pos := "more.go:33", after := #[{ on := 1, ground := Ground.guard }], guard := some (1, true) }) (v := ?vc5) rfl (by kernel_rfl) (by kernel_rfl) (by kernel_rfl) (fun _ _ _ h => h) (Or.inl ⟨by rfl, ?hyc5⟩) (by assumption) ?restc5
              case hyc5 =>
                intro w hSw
                (try dsimp only at hSw)
                go_simp
                all_goals (with_reducible rfl)
              try simp only [Act.put, List.setIfInBounds_toArray, List.set_cons_zero, List.set_cons_succ]
              refine wpAnyH_take (i := 6) (oi := { dst := some 38, op := Op.indexAddr 28 (Operand.tmp 36) (Operand.tmp 37), type := 0, pos := "more.go:33", after := #[{ on := 4, ground := Ground.data }, { on := 5, ground := Ground.data }, { on := 1, ground := Ground.guard }], guard := some (1, true) }) (v := ?vc6) rfl (by kernel_rfl) (by kernel_rfl) (by kernel_rfl) (fun _ _ _ h => h) (Or.inl ⟨by rfl, ?hyc6⟩) (by assumption) ?restc6
              case hyc6 =>
                intro w hSw
                (try dsimp only at hSw)
                go_simp
                all_goals (with_reducible rfl)
              try simp only [Act.put, List.setIfInBounds_toArray, List.set_cons_zero, List.set_cons_succ]
              refine wpAnyH_take (i := 7) (oi := { dst := some 39, op := Op.load 9 (Operand.tmp 38), type := 9, pos := "more.go:33", after := #[{ on := 6, ground := Ground.data }, { on := 1, ground := Ground.guard }], guard := some (1, true) }) (v := ?vc7) rfl (by kernel_rfl) (by kernel_rfl) (by kernel_rfl) (fun _ _ _ h => h) (Or.inl ⟨by rfl, ?hyc7⟩) (by assumption) ?restc7
              case hyc7 =>
                intro w hSw
                (try dsimp only at hSw)
                go_simp
                all_goals (with_reducible rfl)
              try simp only [Act.put, List.setIfInBounds_toArray, List.set_cons_zero, List.set_cons_succ]
              refine wpAnyH_ready (rs := [8]) (by kernel_rfl) (by simp) ?_
              refine AllReadyH.cons (o := { dst := some 40, op := Op.call { callee := Callee.value (Operand.func 8), args := #[Operand.tmp 35, Operand.tmp 39], argTypes := #[28, 9] }, type := 4, pos := "more.go:33", after := #[{ on := 3, ground := Ground.data }, { on := 7, ground := Ground.data }, { on := 1, ground := Ground.chain }, { on := 1, ground := Ground.guard }], guard := some (1, true) }) rfl (fun K hK => ?_) AllReadyH.nil
              go_simp
              refine (rHas_c v.VA v.vn v.vc ss x _ (HE8.out.1) HE8.out.2.2.1).mono ?_
              rintro e9 w9 ⟨rfl, rfl⟩
              rw [H1.out]
              try go_wp2_with fail
              refine hK.out _ _ ?_ (fun hHeld => ?_)
              · (try dsimp only)
                go_keep
              clear hK K
              try simp only [Act.put, List.setIfInBounds_toArray, List.set_cons_zero, List.set_cons_succ]
              refine wpAnyH_take (i := 9) (oi := { dst := some 41, op := Op.move (Operand.tmp 40), type := 4, pos := "more.go:33", after := #[{ on := 8, ground := Ground.data }, { on := 8, ground := Ground.chain }, { on := 1, ground := Ground.guard }], guard := some (1, true) }) (v := ?vc9) rfl (by kernel_rfl) (by kernel_rfl) (by kernel_rfl) (fun _ _ _ h => h) (Or.inl ⟨by rfl, ?hyc9⟩) (by assumption) ?restc9
              case hyc9 =>
                intro w hSw
                (try dsimp only at hSw)
                go_simp
                all_goals (with_reducible rfl)
              try simp only [Act.put, List.setIfInBounds_toArray, List.set_cons_zero, List.set_cons_succ]
              refine wpAnyH_take (i := 10) (oi := { dst := some 42, op := Op.fieldAddr 31 (Operand.tmp 3) 1, type := 0, pos := "more.go:33", after := #[{ on := 9, ground := Ground.guard }], guard := some (9, false) }) (v := ?vc10) rfl (by kernel_rfl) (by kernel_rfl) (by kernel_rfl) (fun _ _ _ h => h) (Or.inl ⟨by rfl, ?hyc10⟩) (by assumption) ?restc10
              case hyc10 =>
                intro w hSw
                (try dsimp only at hSw)
                go_simp
                all_goals (with_reducible rfl)
              try simp only [Act.put, List.setIfInBounds_toArray, List.set_cons_zero, List.set_cons_succ]
              refine wpAnyH_take (i := 11) (oi := { dst := some 43, op := Op.load 28 (Operand.tmp 42), type := 28, pos := "more.go:33", after := #[{ on := 10, ground := Ground.data }, { on := 9, ground := Ground.guard }], guard := some (9, false) }) (v := ?vc11) rfl (by kernel_rfl) (by kernel_rfl) (by kernel_rfl) (fun _ _ _ h => h) (Or.inl ⟨by rfl, ?hyc11⟩) (by assumption) ?restc11
              case hyc11 =>
                intro w hSw
                (try dsimp only at hSw)
                go_simp
                all_goals (with_reducible rfl)
              try simp only [Act.put, List.setIfInBounds_toArray, List.set_cons_zero, List.set_cons_succ]
              refine wpAnyH_take (i := 12) (oi := { dst := some 44, op := Op.move (Operand.tmp 6), type := 28, pos := "more.go:33", after := #[{ on := 9, ground := Ground.guard }], guard := some (9, false) }) (v := ?vc12) rfl (by kernel_rfl) (by kernel_rfl) (by kernel_rfl) (fun _ _ _ h => h) (Or.inl ⟨by rfl, ?hyc12⟩) (by assumption) ?restc12
              case hyc12 =>
                intro w hSw
                (try dsimp only at hSw)
                go_simp
                all_goals (with_reducible rfl)
              try simp only [Act.put, List.setIfInBounds_toArray, List.set_cons_zero, List.set_cons_succ]
              refine wpAnyH_take (i := 13) (oi := { dst := some 45, op := Op.move (Operand.tmp 7), type := 3, pos := "more.go:33", after := #[{ on := 9, ground := Ground.guard }], guard := some (9, false) }) (v := ?vc13) rfl (by kernel_rfl) (by kernel_rfl) (by kernel_rfl) (fun _ _ _ h => h) (Or.inl ⟨by rfl, ?hyc13⟩) (by assumption) ?restc13
              case hyc13 =>
                intro w hSw
                (try dsimp only at hSw)
                go_simp
                all_goals (with_reducible rfl)
              try simp only [Act.put, List.setIfInBounds_toArray, List.set_cons_zero, List.set_cons_succ]
              refine wpAnyH_take (i := 14) (oi := { dst := some 46, op := Op.indexAddr 28 (Operand.tmp 44) (Operand.tmp 45), type := 0, pos := "more.go:33", after := #[{ on := 12, ground := Ground.data }, { on := 13, ground := Ground.data }, { on := 9, ground := Ground.guard }], guard := some (9, false) }) (v := ?vc14) rfl (by kernel_rfl) (by kernel_rfl) (by kernel_rfl) (fun _ _ _ h => h) (Or.inl ⟨by rfl, ?hyc14⟩) (by assumption) ?restc14
              case hyc14 =>
                intro w hSw
                (try dsimp only at hSw)
                go_simp
                all_goals (with_reducible rfl)
              try simp only [Act.put, List.setIfInBounds_toArray, List.set_cons_zero, List.set_cons_succ]
              refine wpAnyH_take (i := 15) (oi := { dst := some 47, op := Op.load 9 (Operand.tmp 46), type := 9, pos := "more.go:33", after := #[{ on := 14, ground := Ground.data }, { on := 9, ground := Ground.guard }], guard := some (9, false) }) (v := ?vc15) rfl (by kernel_rfl) (by kernel_rfl) (by kernel_rfl) (fun _ _ _ h => h) (Or.inl ⟨by rfl, ?hyc15⟩) (by assumption) ?restc15
              case hyc15 =>
                intro w hSw
                (try dsimp only at hSw)
                go_simp
                all_goals (with_reducible rfl)
              try simp only [Act.put, List.setIfInBounds_toArray, List.set_cons_zero, List.set_cons_succ]
              refine wpAnyH_ready (rs := [16]) (by kernel_rfl) (by simp) ?_
              refine AllReadyH.cons (o := { dst := some 48, op := Op.call { callee := Callee.value (Operand.func 8), args := #[Operand.tmp 43, Operand.tmp 47], argTypes := #[28, 9] }, type := 4, pos := "more.go:33", after := #[{ on := 11, ground := Ground.data }, { on := 15, ground := Ground.data }, { on := 9, ground := Ground.chain }, { on := 9, ground := Ground.guard }], guard := some (9, false) }) rfl (fun K hK => ?_) AllReadyH.nil
              go_simp
              refine (rHas_c v.NA v.nn v.nc ns x _ (HE8.out.2.1) HE8.out.2.2.2).mono ?_
              rintro e9 w9 ⟨rfl, rfl⟩
              rw [H2.out]
              try go_wp2_with fail
              refine hK.out _ _ ?_ (fun hHeld => ?_)
              · (try dsimp only)
                go_keep
              clear hK K
              try simp only [Act.put, List.setIfInBounds_toArray, List.set_cons_zero, List.set_cons_succ]
              refine wpAnyH_take (i := 17) (oi := { dst := some 49, op := Op.pick (Operand.tmp 41) (Operand.const (Value.bool true)) (Operand.tmp 48), type := 4, pos := "more.go:33", after := #[{ on := 9, ground := Ground.data }, { on := 16, ground := Ground.data }, { on := 1, ground := Ground.guard }], guard := some (1, true) }) (v := ?vc17) rfl (by kernel_rfl) (by kernel_rfl) (by kernel_rfl) (fun _ _ _ h => h) (Or.inl ⟨by rfl, ?hyc17⟩) (by assumption) ?restc17
              case hyc17 =>
                intro w hSw
                (try dsimp only at hSw)
                go_simp
                all_goals (with_reducible rfl)
              try simp only [Act.put, List.setIfInBounds_toArray, List.set_cons_zero, List.set_cons_succ]
              refine wpAnyH_take (i := 18) (oi := { dst := some 50, op := Op.pick (Operand.tmp 33) (Operand.tmp 49) (Operand.const (Value.bool false)), type := 4, pos := "more.go:33", after := #[{ on := 1, ground := Ground.data }, { on := 17, ground := Ground.data }], guard := none }) (v := ?vc18) rfl (by kernel_rfl) (by kernel_rfl) (by kernel_rfl) (fun _ _ _ h => h) (Or.inl ⟨by rfl, ?hyc18⟩) (by assumption) ?restc18
              case hyc18 =>
                intro w hSw
                (try dsimp only at hSw)
                go_simp
                all_goals (with_reducible rfl)
              try simp only [Act.put, List.setIfInBounds_toArray, List.set_cons_zero, List.set_cons_succ]
              refine wpAnyH_take (i := 19) (oi := { dst := some 5, op := Op.assign (Operand.tmp 50), type := 4, pos := "more.go:33", after := #[{ on := 18, ground := Ground.data }, { on := 16, ground := Ground.chain }, { on := 0, ground := Ground.phase }, { on := 1, ground := Ground.phase }, { on := 2, ground := Ground.phase }, { on := 3, ground := Ground.phase }, { on := 4, ground := Ground.phase }, { on := 5, ground := Ground.phase }, { on := 6, ground := Ground.phase }, { on := 7, ground := Ground.phase }, { on := 8, ground := Ground.phase }, { on := 9, ground := Ground.phase }, { on := 10, ground := Ground.phase }, { on := 11, ground := Ground.phase }, { on := 12, ground := Ground.phase }, { on := 13, ground := Ground.phase }, { on := 14, ground := Ground.phase }, { on := 15, ground := Ground.phase }, { on := 16, ground := Ground.phase }, { on := 17, ground := Ground.phase }, { on := 18, ground := Ground.phase }], guard := none }) (v := ?vc19) rfl (by kernel_rfl) (by kernel_rfl) (by kernel_rfl) (fun _ _ _ h => h) (Or.inl ⟨by rfl, ?hyc19⟩) (by assumption) ?restc19
              case hyc19 =>
                intro w hSw
                (try dsimp only at hSw)
                go_simp
                all_goals (with_reducible rfl)
              try simp only [Act.put, List.setIfInBounds_toArray, List.set_cons_zero, List.set_cons_succ]
              refine wpAnyH_done (by kernel_rfl) ?_ _
              go_wp2
              go_roundw
              case rel => exact ⟨i + 1, by omega, by go_num, by rw [HST.out, HA0.out]; unfold okB; rw [H1.out, H2.out]; rfl, Lib.hid (HBR.out.trans ((bel1 wr).mono HBR.out.size))⟩
              case measure => simp [intOf]; omega
        · have i1 : ¬ (i : Int) < (n : Int) := by omega
          have hie : i = n := by omega
          have ha1 : (ln.take i).all (okB ss ns) = true ↔ Kn (gOf fOf ss ns L) t := by
            rw [hie, List.take_of_length_le (by rw [HOW.out.len]; exact Nat.le_refl _)]
            exact kn_iff HNM.out.2
          have ha2 : (ln.take i).all (okB ss ns) = true ↔ Kn (gOf fAt ss ns L) t := by
            rw [hie, List.take_of_length_le (by rw [HOW.out.len]; exact Nat.le_refl _)]
            exact kn_iff HNM.out.2
          have HA1 := Lib.hid ha1
          have HA2 := Lib.hid ha2
          clear hie ha1 ha2
          generalize (ln.take i).all (okB ss ns) = a at *
          obtain ⟨e0, e1, e2, e3, e4, e5⟩ := (HK.out _ HB5.out).1.facts
          obtain ⟨v0, v1, v2⟩ := (HK.out _ HB5.out).2.1.facts
          have HW5 := Lib.hid (HK.out _ HB5.out).2.2
          go_wp2_with fail
          refine ((OfS_c t u v ss ns L _ HTR.out.1 HTR.out.2.1 (Tg.below HW5.out t u HTR.out.2.2.2.1) (HALL.out.2.2.2.2.2.2.2.2.below HW5.out) HTR.out.2.2.2.2 (hL.out.1.below HW5.out) hL.out.2).mono fun e w' h => KR.open_ h).mono ?_
          rintro e w5 ⟨z, cc, rfl, hr, hb⟩
          have HX := Lib.hid (said_code HTR.out.1.1 a HA1.out cc hr.code)
          have HB6 := Lib.hid ((HB5.out.trans (hb.mono HB5.out.size)).alloc (HB5.out.trans (hb.mono HB5.out.size)).size (.cells #[.int .i64 z.s, .slice z.A z.n z.c, .bool z.K.s, .slice z.K.A z.K.n z.K.c, .slice z.K.B z.K.m z.K.d] 39))
          clear hr hb e0 e1 e2 e3 e4 e5 v0 v1 v2
          obtain ⟨e0, e1, e2, e3, e4, e5⟩ := (HK.out _ HB6.out).1.facts
          obtain ⟨v0, v1, v2⟩ := (HK.out _ HB6.out).2.1.facts
          have HW6 := Lib.hid (HK.out _ HB6.out).2.2
          go_wp2_with fail
          refine (ValueS_c t u v ss ns L _ HTR.out.1 HTR.out.2.1 (Tg.below HW6.out t u HTR.out.2.2.2.1) (HALL.out.2.2.2.2.2.2.2.2.below HW6.out) HTR.out.2.2.2.2 (hL.out.1.below HW6.out) hL.out.2).mono ?_
          rintro e w6 ⟨z2, rfl, hb⟩
          obtain ⟨yy, hyy⟩ : ∃ yy, yy = (sumOf (gOf fAt ss ns L) t).code := ⟨_, rfl⟩
          rw [← hyy]
          have HY := Lib.hid (said_code HTR.out.1.1 a HA2.out yy hyy)
          have HB7 := Lib.hid ((HB6.out.trans (hb.mono HB6.out.size)).alloc (HB6.out.trans (hb.mono HB6.out.size)).size (.cells #[.bool z2.s, .slice z2.A z2.n z2.c, .slice z2.B z2.m z2.d] 24))
          have HKN : Hid (∀ w', Below W.heap.size W w' → Calls Tryz.prog 11 #[] w' fun e w'' => e = .returned (.bool true) ∧ Below w'.heap.size w' w'') := fun w' h => known8_c w' (HALL.out.2.2.2.2.2.2.2.2.below (HK.out _ h).2.2)
          clear hyy hb e0 e1 e2 e3 e4 e5 v0 v1 v2
          rcases HX.out with ⟨ha, hc⟩ | ⟨ha, hc⟩
          · rcases HY.out with ⟨_, hd⟩ | ⟨hd, _⟩
            · subst ha
              clear HX HY HA1 HA2
              rcases hc with rfl | rfl | rfl <;> rcases hd with rfl | rfl | rfl
              all_goals
                go_wp2_with fail
                refine (HKN.out _ HB7.out).mono ?_
                rintro e w7 ⟨rfl, hb⟩
                go_wp2
                go_ret
                exact ⟨rfl, ((HK.out _ HB7.out).2.2).trans (hb.mono (HK.out _ HB7.out).2.2.size)⟩
            · rw [ha] at hd; cases hd
          · subst ha
            clear HX HY HA1 HA2
            rcases hc with rfl | rfl | rfl
            all_goals
              go_wp2_with fail
              refine (HKN.out _ HB7.out).mono ?_
              rintro e w7 ⟨rfl, hb⟩
              go_wp2
              go_ret
              exact ⟨rfl, ((HK.out _ HB7.out).2.2).trans (hb.mono (HK.out _ HB7.out).2.2.size)⟩
    · have HNO := Lib.hid h2
      clear h2
      go_wp2_with fail
      refine (IsF_c HALL.out.1 hl.out.1 (by have := hl.out.2; omega) (HK.out _ HB2.out).2.2 HNO.out).mono ?_
      rintro e w3 ⟨rfl, hb⟩
      clear e0 e1 e2 e3 e4 e5 v0 v1 v2
      go_wp2
      go_ret
      exact ⟨rfl, ((HK.out _ HB2.out).2.2).trans (hb.mono (HK.out _ HB2.out).2.2.size)⟩
end Go.Proofs.YtdpbceipiappjaaGreatDoor
