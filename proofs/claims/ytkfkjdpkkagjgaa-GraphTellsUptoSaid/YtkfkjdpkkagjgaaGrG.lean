/-
  The document's Apart of chapter 11.
-/
import Derived.Test.YtkfkjdpkkagjgaaGrF
import Derived.Deep.Cut
import Derived.Deep.RegionHeld3
namespace Go.Proofs.Ytkfkjdpkkagjgaa
set_option maxRecDepth 20000
open Go.RowKit

/-- A constraint of two terms that a region made. -/
structure TwoAt (W wx : World) (Y G : Nat) (tx ty : Tv) : Prop where
  cell : C5 wx Y (.int .i64 0) (.slice (some ⟨G, 0, none⟩) 2 2) (.bool false) (.slice none 0 0) (.slice none 0 0)
  below : Below W.heap.size W wx
  terms : wx.heap[G]? = some (.cells #[.int .i64 tx.v, .bool tx.r.s, .slice tx.r.A tx.r.n tx.r.c, .slice tx.r.B tx.r.m tx.r.d, .int .i64 ty.v, .bool ty.r.s, .slice ty.r.A ty.r.n ty.r.c, .slice ty.r.B ty.r.m ty.r.d] 42 (0, 0))
  le : W.heap.size ≤ G
theorem TwoAt.put {W w : World} {Y G : Nat} {tx ty : Tv} (hk : C5 w Y (.int .i64 0) (.slice none 0 0) (.bool false) (.slice none 0 0) (.slice none 0 0)) (hY : W.heap.size ≤ Y) (hb : Below W.heap.size W w)
    (h : w.heap[G]? = some (.cells #[.int .i64 tx.v, .bool tx.r.s, .slice tx.r.A tx.r.n tx.r.c, .slice tx.r.B tx.r.m tx.r.d, .int .i64 ty.v, .bool ty.r.s, .slice ty.r.A ty.r.n ty.r.c, .slice ty.r.B ty.r.m ty.r.d] 42 (0, 0))) (hG : W.heap.size ≤ G) :
    TwoAt W (put5 w Y (.int .i64 0) (.slice (some ⟨G, 0, none⟩) 2 2) (.bool false) (.slice none 0 0) (.slice none 0 0)) Y G tx ty := by
  have hne : G ≠ Y := by
    intro e
    subst e
    have h1 : w.heap[G]? = some (.cells #[Value.int .i64 0, .slice none 0 0, .bool false, .slice none 0 0, .slice none 0 0] 28 (0, 0)) := hk
    have h2 := h1.symm.trans h
    injection h2 with h2
    injection h2 with h2
    have := congrArg Array.size h2
    simp at this
  have hlt : G < w.heap.size := (Array.getElem?_eq_some_iff.1 h).1
  exact ⟨hk.put _ _ _ _ _, hb.trans (put5_below hY _ _ _ _ _), (put5_but _ _ _ _ _ _ _ G hlt hne).trans h, hG⟩
/-- The struct of two terms. -/
def tv2 (G : Nat) : Cv := ⟨0, some ⟨G, 0, none⟩, 2, 2, ⟨false, none, 0, 0, none, 0, 0⟩⟩
theorem TwoAt.tms {W wx : World} {Y G a b : Nat} {tx ty : Tv} {A : Option Addr} (h : TwoAt W wx Y G tx ty) (hx : tx.v = (a : Int)) (hy : ty.v = (b : Int)) (hA : ∀ ad, A = some ad → ad.block < W.heap.size) : TmsAt wx (tv2 G) A [a, b] := by
  refine ⟨G, 0, rfl, (Array.getElem?_eq_some_iff.1 h.terms).1, fun ad ha => by have := hA ad ha; have := h.le; omega, fun j hj => ?_⟩
  have hG := h.terms
  have hj2 : j < 2 := hj
  have : j = 0 ∨ j = 1 := by omega
  rcases this with rfl | rfl
  · simp [World.cell?, hG, hx, nth]
  · simp [World.cell?, hG, hy, nth]
/-- What join leaves of two variables. -/
theorem RJPost.two {N lo : Nat} {A : Option Addr} {c a b : Nat} {l : List Nat} {w w' : World} {e : Ending} (h : RJPost N lo A c l [a, b] w e w') : ∃ r : Bool, e = .returned (.bool r) ∧ OwnN w' lo A c N (mrg l a b) ∧ w.grownBy w' (A.map (·.block)) := by
  obtain ⟨⟨r, he, _⟩, h1, h2, h3⟩ := h
  refine ⟨r, he, ?_, h3⟩
  have ef : failR l [a, b] = 0 + (if rt l a = rt l b then 1 else 0) := rfl
  by_cases g : rt l a = rt l b
  · rw [mrg_same g]; exact h2 (by rw [ef, if_pos g]; omega)
  · exact h1 (by rw [ef, if_neg g])
set_option maxHeartbeats 25600000 in
theorem rApart_c (n : Int) (N : Nat) (hN : bndN n = N) (A : Option Addr) (m c : Nat) (ps : List (Cv × List Tv)) (cs : List (List Nat)) (w0 w : World) (hp : Gns w0 A m ps) (hcs : csOf w0 N ps = cs) (hb0 : Below w0.heap.size w0 w) :
    Calls Try.prog 21 #[.slice A m c, .int .i64 n] w (ApPost N (runN N cs) w) := by
  have HP := Lib.hid hp
  have HB0 := Lib.hid hb0
  have HC := Lib.hid hcs
  have HN := Lib.hid hN
  have h64 : N ≤ 64 := by rw [← hN]; exact bndN_le n
  have HL : Hid (cs.length = m) := by show _ = _; rw [← hcs, csOf, List.length_map]; exact hp.len
  have HBN : Hid (bnd N cs) := hcs ▸ csOf_bnd w0 N ps
  have m0 : (0 : Int) ≤ (m : Int) := by omega
  have m1 : (m : Int) ≤ 1000 := by have := hp.le; omega
  clear hp hb0 hcs hN
  go_enter Try.func21, Try.ntmps21
  go_upto_region 1 with fail
  go_cut [1] (fun v wx => v = .int .i64 (N : Int) ∧ w = wx)
  case first =>
    have hn1 := bndN_int n
    rw [HN.out] at hn1
    have E := Lib.hid hn1
    clear hn1
    go_wp2
    go_meet
    exact ⟨by rw [E.out], rfl⟩
  case rest =>
    obtain ⟨rfl, rfl⟩ := hcut
    have n0 : (0 : Int) ≤ (N : Int) := by omega
    have n1 : (N : Int) ≤ 64 := by omega
    go_wp2_with fail
    refine (start_c N h64 w).mono ?_
    rintro e w1 ⟨A2, c2, rfl, ho, hb⟩
    have HO : Hid (OwnN w1 w.heap.size A2 c2 N (runN N (cs.take 0)) ∧ Below w.heap.size w w1) := ⟨by rw [List.take_zero]; exact ho, hb⟩
    clear ho hb
    go_wp2
    go_loopw [6, 7, 8] (fun iv _ _ wr => ∃ i : Nat, i ≤ m ∧ iv = .int .i64 i ∧ Hid (OwnN wr w.heap.size A2 c2 N (runN N (cs.take i)) ∧ Below w.heap.size w wr)) (fun iv _ _ _ => m - (intOf iv).toNat)
    case atStart => exact ⟨0, Nat.zero_le _, rfl, HO⟩
    case round =>
      clear HO
      obtain ⟨i, hi, rfl, HR⟩ := hrel
      have i0 : (0 : Int) ≤ (i : Int) := by omega
      by_cases hlt : i < m
      · have i1 : (i : Int) < (m : Int) := by omega
        have hil : i < ps.length := by have := HP.out.len; omega
        obtain ⟨bc, oc, hA, hbw, hcc⟩ := HP.out.kons.mem (by omega)
        have hx := List.getElem?_eq_getElem hil
        have hxm : (ps.map (·.1))[i]? = some ps[i].1 := by rw [List.getElem?_map, hx]; rfl
        have hci : cs[i]? = some (vr w0 N ps[i]) := by rw [← HC.out, csOf, List.getElem?_map, hx]; rfl
        have HGI := Lib.hid (HP.out.each _ (List.getElem_mem hil))
        have HB0R : Hid (Below w0.heap.size w0 wr) := HB0.out.trans (HR.out.2.mono HB0.out.size)
        have h5 := hcc i _ hxm
        generalize ps[i] = x at *
        obtain ⟨va, la⟩ := x
        replace h5 : At5 w0 bc (oc + i * 5) va := h5
        have H5 : Hid (∀ wz, Below w0.heap.size w0 wz → At5 wz bc (oc + i * 5) va) := fun wz hz => h5.keep (hz.block bc hbw)
        have HBC : Hid (bc < w0.heap.size) := hbw
        obtain ⟨k0, k1, k2, k3, k4⟩ := H5.out _ HB0R.out
        have v1000 : va.n ≤ 1000 := HGI.out.n
        obtain ⟨cc, hcc2⟩ : ∃ cc, cc = vr w0 N (va, la) := ⟨_, rfl⟩
        rw [← hcc2] at hci
        have HCI := Lib.hid (And.intro hci hcc2.symm)
        obtain ⟨L, hL⟩ := (HGI.out.below HB0R.out).rd
        obtain ⟨k, hk⟩ := (HGI.out.below HB0R.out).k
        have HLK := Lib.hid (And.intro hL hk)
        subst hA
        clear hx hxm hcc hci hcc2 hL hk hbw h5
        by_cases hs : IsS w0 va la (N : Int)
        · go_wp2_with fail
          refine (rIsK_c va (N : Int) la L k wr (by omega) HGI.out.cap (HGI.out.below HB0R.out).row (HLK.out.1.more (by omega)) (HLK.out.2.more (by omega)) v1000 true ⟨fun _ => (HGI.out.turn HB0R.out _).1 hs, fun _ => rfl⟩).mono ?_
          rintro e w2 ⟨rfl, hb2⟩
          have HS := Lib.hid hs
          have HE : Hid (cc = la.map fun t => t.v.toNat) := HCI.out.2.symm.trans (vr_yes HS.out)
          have HCL : Hid (cc.length = va.n) := by show _ = _; rw [HE.out, List.length_map]; exact HGI.out.row.len
          have HST : Hid (OwnN w2 w.heap.size A2 c2 N (starTo (runN N (cs.take i)) cc 0) ∧ Below w.heap.size w w2) := ⟨HR.out.1.below hb2, HR.out.2.trans (hb2.mono HR.out.2.size)⟩
          have v0 : (0 : Int) ≤ (va.n : Int) := by omega
          have v1 : (va.n : Int) ≤ 1000 := by omega
          have v2 : va.n ≤ va.c := HGI.out.cap
          clear k0 k1 k2 k3 k4 hb2 hs HR HB0R HLK
          go_wp2
          go_loopw [7, 8] (fun kv _ wr => ∃ j : Nat, (j = 0 ∨ j < va.n) ∧ kv = .int .i64 ((j : Int) + 1) ∧ Hid (OwnN wr w.heap.size A2 c2 N (starTo (runN N (cs.take i)) cc j) ∧ Below w.heap.size w wr)) (fun kv _ _ => va.n + 1 - (intOf kv).toNat)
          case atStart => exact ⟨0, .inl rfl, rfl, HST⟩
          case round =>
            clear HST
            obtain ⟨j, hj, rfl, HR⟩ := hrel
            have HB0R : Hid (Below w0.heap.size w0 wr) := HB0.out.trans (HR.out.2.mono HB0.out.size)
            have a1 := (H5.out _ HB0R.out).h1
            have j0 : (0 : Int) ≤ (j : Int) + 1 := by omega
            by_cases hjn : j + 1 < va.n
            · have j1 : (j : Int) + 1 < (va.n : Int) := by omega
              have j2 : (0 : Int) < (va.n : Int) := by omega
              have j2n : 0 < va.n := by omega
              obtain ⟨bk, ok, hkA, _, hbk, hcell⟩ := HGI.out.row.mem (by show 0 < va.n; omega)
              replace hbk : bk < w0.heap.size := hbk
              have hl0 : 0 < la.length := by have : la.length = va.n := HGI.out.row.len; omega
              have hl1 : j + 1 < la.length := by have : la.length = va.n := HGI.out.row.len; omega
              have e0 := List.getElem?_eq_getElem hl0
              have e1 := List.getElem?_eq_getElem hl1
              have HX0 := Lib.hid (HS.out.var e0)
              have HX1 := Lib.hid (HS.out.var e1)
              have hx0 := hcell 0 _ e0
              have hx1 := hcell (j + 1) _ e1
              rw [Nat.zero_mul, Nat.add_zero] at hx0
              generalize la[0] = tx at *
              generalize la[j + 1] = ty at *
              have HLT : Hid (bc < wr.heap.size ∧ bk < wr.heap.size) := by have := HBC.out; have := HB0R.out.size; show _ ∧ _; omega
              have HAL : Hid (∀ w', Below wr.heap.size wr w' → w'.cell? ⟨bc, oc + i * 5 + 1, none⟩ = some (.slice (some ⟨bk, ok, none⟩) va.n va.c) ∧ (w'.cell? ⟨bk, ok, none⟩ = some (.int .i64 tx.v) ∧ w'.cell? ⟨bk, ok + 1, none⟩ = some (.bool tx.r.s) ∧ w'.cell? ⟨bk, ok + 2, none⟩ = some (.slice tx.r.A tx.r.n tx.r.c) ∧ w'.cell? ⟨bk, ok + 3, none⟩ = some (.slice tx.r.B tx.r.m tx.r.d)) ∧ (w'.cell? ⟨bk, ok + (j + 1) * 4, none⟩ = some (.int .i64 ty.v) ∧ w'.cell? ⟨bk, ok + (j + 1) * 4 + 1, none⟩ = some (.bool ty.r.s) ∧ w'.cell? ⟨bk, ok + (j + 1) * 4 + 2, none⟩ = some (.slice ty.r.A ty.r.n ty.r.c) ∧ w'.cell? ⟨bk, ok + (j + 1) * 4 + 3, none⟩ = some (.slice ty.r.B ty.r.m ty.r.d))) := fun w' h => by
                have hz : Below w0.heap.size w0 w' := HB0R.out.trans (h.mono HB0R.out.size)
                obtain ⟨x0, x1, x2, x3⟩ := hx0.keep (hz.block bk hbk)
                obtain ⟨y0, y1, y2, y3⟩ := hx1.keep (hz.block bk hbk)
                exact ⟨by have := (H5.out _ hz).h1; rwa [show va.A = _ from hkA] at this, ⟨x0, x1, x2, x3⟩, ⟨y0, y1, y2, y3⟩⟩
              rw [show va.A = _ from hkA] at a1
              clear e0 e1 hl0 hl1 hcell hx0 hx1 hbk hkA
              obtain ⟨_, ⟨x0, x1, x2, x3⟩, ⟨y0, y1, y2, y3⟩⟩ := HAL.out _ (Below.refl _ _)
              go_upto_region 10 with fail
              go_cut [8] from 37 to 53 (fun xv wx => ∃ (Y G : Nat), xv = .pointer (some ⟨Y, 0, none⟩) ∧ Hid (TwoAt wr wx Y G tx ty))
              case first =>
                refine wp_region_held_drew (S := fun w' => w'.cell? ⟨bc, oc + i * 5 + 1, none⟩ = some (.slice (some ⟨bk, ok, none⟩) va.n va.c) ∧ w'.cell? ⟨bk, ok, none⟩ = some (.int .i64 tx.v) ∧ w'.cell? ⟨bk, ok + 1, none⟩ = some (.bool tx.r.s) ∧ w'.cell? ⟨bk, ok + 2, none⟩ = some (.slice tx.r.A tx.r.n tx.r.c) ∧ w'.cell? ⟨bk, ok + 3, none⟩ = some (.slice tx.r.B tx.r.m tx.r.d) ∧ w'.cell? ⟨bk, ok + (j + 1) * 4, none⟩ = some (.int .i64 ty.v) ∧ w'.cell? ⟨bk, ok + (j + 1) * 4 + 1, none⟩ = some (.bool ty.r.s) ∧ w'.cell? ⟨bk, ok + (j + 1) * 4 + 2, none⟩ = some (.slice ty.r.A ty.r.n ty.r.c) ∧ w'.cell? ⟨bk, ok + (j + 1) * 4 + 3, none⟩ = some (.slice ty.r.B ty.r.m ty.r.d)) (by kernel_rfl) ?_ (fun hHeld => ?_)
                · (try dsimp only)
                  go_keep
                refine wpAnyH_take (i := 0) (oi := { dst := some 37, op := Op.move (Operand.tmp 0), type := 22, pos := "graph.go:60", after := #[], guard := none }) (v := ?vq1x) rfl (by kernel_rfl) (by kernel_rfl) (by kernel_rfl) (fun _ _ _ h => h) (Or.inl ⟨by rfl, ?hyq1x⟩) (by assumption) ?restq1x
                case hyq1x =>
                  intro w hSw
                  (try dsimp only at hSw)
                  go_simp
                  all_goals (with_reducible rfl)
                try simp only [Act.put, List.setIfInBounds_toArray, List.set_cons_zero, List.set_cons_succ]
                refine wpAnyH_take (i := 1) (oi := { dst := some 38, op := Op.move (Operand.tmp 6), type := 3, pos := "graph.go:60", after := #[], guard := none }) (v := ?vq2x) rfl (by kernel_rfl) (by kernel_rfl) (by kernel_rfl) (fun _ _ _ h => h) (Or.inl ⟨by rfl, ?hyq2x⟩) (by assumption) ?restq2x
                case hyq2x =>
                  intro w hSw
                  (try dsimp only at hSw)
                  go_simp
                  all_goals (with_reducible rfl)
                try simp only [Act.put, List.setIfInBounds_toArray, List.set_cons_zero, List.set_cons_succ]
                refine wpAnyH_take (i := 2) (oi := { dst := some 39, op := Op.indexAddr 22 (Operand.tmp 37) (Operand.tmp 38), type := 0, pos := "graph.go:60", after := #[{ on := 0, ground := Ground.data }, { on := 1, ground := Ground.data }], guard := none }) (v := ?vq3x) rfl (by kernel_rfl) (by kernel_rfl) (by kernel_rfl) (fun _ _ _ h => h) (Or.inl ⟨by rfl, ?hyq3x⟩) (by assumption) ?restq3x
                case hyq3x =>
                  intro w hSw
                  (try dsimp only at hSw)
                  go_simp
                  all_goals (with_reducible rfl)
                try simp only [Act.put, List.setIfInBounds_toArray, List.set_cons_zero, List.set_cons_succ]
                refine wpAnyH_take (i := 3) (oi := { dst := some 40, op := Op.fieldAddr 28 (Operand.tmp 39) 1, type := 0, pos := "graph.go:60", after := #[{ on := 2, ground := Ground.data }], guard := none }) (v := ?vq4x) rfl (by kernel_rfl) (by kernel_rfl) (by kernel_rfl) (fun _ _ _ h => h) (Or.inl ⟨by rfl, ?hyq4x⟩) (by assumption) ?restq4x
                case hyq4x =>
                  intro w hSw
                  (try dsimp only at hSw)
                  go_simp
                  all_goals (with_reducible rfl)
                try simp only [Act.put, List.setIfInBounds_toArray, List.set_cons_zero, List.set_cons_succ]
                refine wpAnyH_take (i := 4) (oi := { dst := some 41, op := Op.load 23 (Operand.tmp 40), type := 23, pos := "graph.go:60", after := #[{ on := 3, ground := Ground.data }], guard := none }) (v := ?vq5x) rfl (by kernel_rfl) (by kernel_rfl) (by kernel_rfl) (fun _ _ _ h => h) (Or.inl ⟨by rfl, ?hyq5x⟩) (by assumption) ?restq5x
                case hyq5x =>
                  intro w hSw
                  (try dsimp only at hSw)
                  go_simp
                  all_goals (with_reducible rfl)
                try simp only [Act.put, List.setIfInBounds_toArray, List.set_cons_zero, List.set_cons_succ]
                refine wpAnyH_take (i := 5) (oi := { dst := some 42, op := Op.indexAddr 23 (Operand.tmp 41) (Operand.const (Value.int IntKind.i64 0)), type := 0, pos := "graph.go:60", after := #[{ on := 4, ground := Ground.data }], guard := none }) (v := ?vq6x) rfl (by kernel_rfl) (by kernel_rfl) (by kernel_rfl) (fun _ _ _ h => h) (Or.inl ⟨by rfl, ?hyq6x⟩) (by assumption) ?restq6x
                case hyq6x =>
                  intro w hSw
                  (try dsimp only at hSw)
                  go_simp
                  all_goals (with_reducible rfl)
                try simp only [Act.put, List.setIfInBounds_toArray, List.set_cons_zero, List.set_cons_succ]
                refine wpAnyH_take (i := 6) (oi := { dst := some 43, op := Op.load 42 (Operand.tmp 42), type := 42, pos := "graph.go:60", after := #[{ on := 5, ground := Ground.data }], guard := none }) (v := ?vq7x) rfl (by kernel_rfl) (by kernel_rfl) (by kernel_rfl) (fun _ _ _ h => h) (Or.inl ⟨by rfl, ?hyq7x⟩) (by assumption) ?restq7x
                case hyq7x =>
                  intro w hSw
                  (try dsimp only at hSw)
                  go_simp
                  all_goals (with_reducible rfl)
                try simp only [Act.put, List.setIfInBounds_toArray, List.set_cons_zero, List.set_cons_succ]
                refine wpAnyH_take (i := 7) (oi := { dst := some 44, op := Op.move (Operand.tmp 0), type := 22, pos := "graph.go:60", after := #[], guard := none }) (v := ?vq8x) rfl (by kernel_rfl) (by kernel_rfl) (by kernel_rfl) (fun _ _ _ h => h) (Or.inl ⟨by rfl, ?hyq8x⟩) (by assumption) ?restq8x
                case hyq8x =>
                  intro w hSw
                  (try dsimp only at hSw)
                  go_simp
                  all_goals (with_reducible rfl)
                try simp only [Act.put, List.setIfInBounds_toArray, List.set_cons_zero, List.set_cons_succ]
                refine wpAnyH_take (i := 8) (oi := { dst := some 45, op := Op.move (Operand.tmp 6), type := 3, pos := "graph.go:60", after := #[], guard := none }) (v := ?vq9x) rfl (by kernel_rfl) (by kernel_rfl) (by kernel_rfl) (fun _ _ _ h => h) (Or.inl ⟨by rfl, ?hyq9x⟩) (by assumption) ?restq9x
                case hyq9x =>
                  intro w hSw
                  (try dsimp only at hSw)
                  go_simp
                  all_goals (with_reducible rfl)
                try simp only [Act.put, List.setIfInBounds_toArray, List.set_cons_zero, List.set_cons_succ]
                refine wpAnyH_take (i := 9) (oi := { dst := some 46, op := Op.indexAddr 22 (Operand.tmp 44) (Operand.tmp 45), type := 0, pos := "graph.go:60", after := #[{ on := 7, ground := Ground.data }, { on := 8, ground := Ground.data }], guard := none }) (v := ?vq10x) rfl (by kernel_rfl) (by kernel_rfl) (by kernel_rfl) (fun _ _ _ h => h) (Or.inl ⟨by rfl, ?hyq10x⟩) (by assumption) ?restq10x
                case hyq10x =>
                  intro w hSw
                  (try dsimp only at hSw)
                  go_simp
                  all_goals (with_reducible rfl)
                try simp only [Act.put, List.setIfInBounds_toArray, List.set_cons_zero, List.set_cons_succ]
                refine wpAnyH_take (i := 10) (oi := { dst := some 47, op := Op.fieldAddr 28 (Operand.tmp 46) 1, type := 0, pos := "graph.go:60", after := #[{ on := 9, ground := Ground.data }], guard := none }) (v := ?vq11x) rfl (by kernel_rfl) (by kernel_rfl) (by kernel_rfl) (fun _ _ _ h => h) (Or.inl ⟨by rfl, ?hyq11x⟩) (by assumption) ?restq11x
                case hyq11x =>
                  intro w hSw
                  (try dsimp only at hSw)
                  go_simp
                  all_goals (with_reducible rfl)
                try simp only [Act.put, List.setIfInBounds_toArray, List.set_cons_zero, List.set_cons_succ]
                refine wpAnyH_take (i := 11) (oi := { dst := some 48, op := Op.load 23 (Operand.tmp 47), type := 23, pos := "graph.go:60", after := #[{ on := 10, ground := Ground.data }], guard := none }) (v := ?vq12x) rfl (by kernel_rfl) (by kernel_rfl) (by kernel_rfl) (fun _ _ _ h => h) (Or.inl ⟨by rfl, ?hyq12x⟩) (by assumption) ?restq12x
                case hyq12x =>
                  intro w hSw
                  (try dsimp only at hSw)
                  go_simp
                  all_goals (with_reducible rfl)
                try simp only [Act.put, List.setIfInBounds_toArray, List.set_cons_zero, List.set_cons_succ]
                refine wpAnyH_take (i := 12) (oi := { dst := some 49, op := Op.move (Operand.tmp 7), type := 3, pos := "graph.go:60", after := #[], guard := none }) (v := ?vq13x) rfl (by kernel_rfl) (by kernel_rfl) (by kernel_rfl) (fun _ _ _ h => h) (Or.inl ⟨by rfl, ?hyq13x⟩) (by assumption) ?restq13x
                case hyq13x =>
                  intro w hSw
                  (try dsimp only at hSw)
                  go_simp
                  all_goals (with_reducible rfl)
                try simp only [Act.put, List.setIfInBounds_toArray, List.set_cons_zero, List.set_cons_succ]
                refine wpAnyH_take (i := 13) (oi := { dst := some 50, op := Op.indexAddr 23 (Operand.tmp 48) (Operand.tmp 49), type := 0, pos := "graph.go:60", after := #[{ on := 11, ground := Ground.data }, { on := 12, ground := Ground.data }], guard := none }) (v := ?vq14x) rfl (by kernel_rfl) (by kernel_rfl) (by kernel_rfl) (fun _ _ _ h => h) (Or.inl ⟨by rfl, ?hyq14x⟩) (by assumption) ?restq14x
                case hyq14x =>
                  intro w hSw
                  (try dsimp only at hSw)
                  go_simp
                  all_goals (with_reducible rfl)
                try simp only [Act.put, List.setIfInBounds_toArray, List.set_cons_zero, List.set_cons_succ]
                refine wpAnyH_take (i := 14) (oi := { dst := some 51, op := Op.load 42 (Operand.tmp 50), type := 42, pos := "graph.go:60", after := #[{ on := 13, ground := Ground.data }], guard := none }) (v := ?vq15x) rfl (by kernel_rfl) (by kernel_rfl) (by kernel_rfl) (fun _ _ _ h => h) (Or.inl ⟨by rfl, ?hyq15x⟩) (by assumption) ?restq15x
                case hyq15x =>
                  intro w hSw
                  (try dsimp only at hSw)
                  go_simp
                  all_goals (with_reducible rfl)
                try simp only [Act.put, List.setIfInBounds_toArray, List.set_cons_zero, List.set_cons_succ]
                refine wpAnyH_ready (rs := [15, 17]) (by kernel_rfl) (by simp) ?_
                refine AllReadyH.cons (o := { dst := some 52, op := Op.buildSlice 23 2 #[(0, Operand.tmp 43), (1, Operand.tmp 51)], type := 23, pos := "graph.go:60", after := #[{ on := 6, ground := Ground.data }, { on := 14, ground := Ground.data }], guard := none }) rfl (fun K hK => ?_) (AllReadyH.cons (o := { dst := some 8, op := Op.alloc 28, type := 0, pos := "graph.go:60", after := #[], guard := none }) rfl (fun K hK => ?_) AllReadyH.nil)
                · skip
                  try go_simp
                  try go_wp2_with fail
                  refine hK.out _ _ ?_ (fun hHeld => ?_)
                  · (try dsimp only)
                    go_keep
                  clear hK K
                  try simp only [Act.put, List.setIfInBounds_toArray, List.set_cons_zero, List.set_cons_succ]
                  have B15 : Hid (Below wr.heap.size wr (wr.alloc (.cells #[.int .i64 tx.v, .bool tx.r.s, .slice tx.r.A tx.r.n tx.r.c, .slice tx.r.B tx.r.m tx.r.d, .int .i64 ty.v, .bool ty.r.s, .slice ty.r.A ty.r.n ty.r.c, .slice ty.r.B ty.r.m ty.r.d] 42)).drew) := ((Below.refl _ _).alloc (Nat.le_refl _) _).drew
                  have G15 : Hid ((wr.alloc (.cells #[.int .i64 tx.v, .bool tx.r.s, .slice tx.r.A tx.r.n tx.r.c, .slice tx.r.B tx.r.m tx.r.d, .int .i64 ty.v, .bool ty.r.s, .slice ty.r.A ty.r.n ty.r.c, .slice ty.r.B ty.r.m ty.r.d] 42)).drew.heap[wr.heap.size]? = some (.cells #[.int .i64 tx.v, .bool tx.r.s, .slice tx.r.A tx.r.n tx.r.c, .slice tx.r.B tx.r.m tx.r.d, .int .i64 ty.v, .bool ty.r.s, .slice ty.r.A ty.r.n ty.r.c, .slice ty.r.B ty.r.m ty.r.d] 42 (0, 0)) ∧ wr.heap.size < (wr.alloc (.cells #[.int .i64 tx.v, .bool tx.r.s, .slice tx.r.A tx.r.n tx.r.c, .slice tx.r.B tx.r.m tx.r.d, .int .i64 ty.v, .bool ty.r.s, .slice ty.r.A ty.r.n ty.r.c, .slice ty.r.B ty.r.m ty.r.d] 42)).drew.heap.size) := ⟨heap_alloc_new wr _, by simp⟩
                  generalize (wr.alloc (.cells #[.int .i64 tx.v, .bool tx.r.s, .slice tx.r.A tx.r.n tx.r.c, .slice tx.r.B tx.r.m tx.r.d, .int .i64 ty.v, .bool ty.r.s, .slice ty.r.A ty.r.n ty.r.c, .slice ty.r.B ty.r.m ty.r.d] 42)).drew = w15 at *
                  clear a1 x0 x1 x2 x3 y0 y1 y2 y3
                  obtain ⟨a1, ⟨x0, x1, x2, x3⟩, ⟨y0, y1, y2, y3⟩⟩ := HAL.out _ B15.out
                  refine wpAnyH_take (i := 16) (oi := { dst := some 53, op := Op.build 28 #[(1, Operand.tmp 52)], type := 28, pos := "graph.go:60", after := #[{ on := 15, ground := Ground.data }], guard := none }) (v := ?vq16x) rfl (by kernel_rfl) (by kernel_rfl) (by kernel_rfl) (fun _ _ _ h => h) (Or.inl ⟨by rfl, ?hyq16x⟩) (by assumption) ?restq16x
                  case hyq16x =>
                    intro w hSw
                    (try dsimp only at hSw)
                    go_simp
                    all_goals (with_reducible rfl)
                  try simp only [Act.put, List.setIfInBounds_toArray, List.set_cons_zero, List.set_cons_succ]
                  refine wpAnyH_ready (rs := [17]) (by kernel_rfl) (by simp) ?_
                  refine AllReadyH.cons (o := { dst := some 8, op := Op.alloc 28, type := 0, pos := "graph.go:60", after := #[], guard := none }) rfl (fun K hK => ?_) AllReadyH.nil
                  try go_simp
                  try go_wp2_with fail
                  refine hK.out _ _ ?_ (fun hHeld => ?_)
                  · (try dsimp only)
                    go_keep
                  clear hK K
                  try simp only [Act.put, List.setIfInBounds_toArray, List.set_cons_zero, List.set_cons_succ]
                  have B17 : Hid (Below w15.heap.size w15 (w15.alloc (.cells #[.int .i64 0, .slice none 0 0, .bool false, .slice none 0 0, .slice none 0 0] 28))) := ((Below.refl _ _).alloc (Nat.le_refl _) _)
                  have Y17 : Hid (C5 (w15.alloc (.cells #[.int .i64 0, .slice none 0 0, .bool false, .slice none 0 0, .slice none 0 0] 28)) w15.heap.size (.int .i64 0) (.slice none 0 0) (.bool false) (.slice none 0 0) (.slice none 0 0)) := C5.new w15 (.int .i64 0) (.slice none 0 0) (.bool false) (.slice none 0 0) (.slice none 0 0)
                  generalize (w15.alloc (.cells #[.int .i64 0, .slice none 0 0, .bool false, .slice none 0 0, .slice none 0 0] 28)) = w17 at *
                  clear a1 x0 x1 x2 x3 y0 y1 y2 y3
                  obtain ⟨a1, ⟨x0, x1, x2, x3⟩, ⟨y0, y1, y2, y3⟩⟩ := HAL.out _ (B15.out.trans (B17.out.mono B15.out.size))
                  have kY := Y17.out.below (Below.refl _ _)
                  obtain ⟨z0, z1, z2, z3, z4⟩ := kY.facts
                  obtain ⟨t0, t1, t2, t3, t4⟩ := kY.thaw
                  clear kY
                  have mA : ¬ bc = w15.heap.size := by have := HLT.out.1; have := B15.out.size; omega
                  have mB : ¬ bk = w15.heap.size := by have := HLT.out.2; have := B15.out.size; omega
                  have mC : ¬ w15.heap.size = bc := fun e => mA e.symm
                  have mD : ¬ w15.heap.size = bk := fun e => mB e.symm
                  refine wpAnyH_ready (rs := [18]) (by kernel_rfl) (by simp) ?_
                  refine AllReadyH.cons (o := { dst := none, op := Op.store 28 (Operand.tmp 8) (Operand.tmp 53), type := 0, pos := "graph.go:60", after := #[{ on := 17, ground := Ground.data }, { on := 16, ground := Ground.data }, { on := 0, ground := Ground.phase }, { on := 1, ground := Ground.phase }, { on := 2, ground := Ground.phase }, { on := 3, ground := Ground.phase }, { on := 4, ground := Ground.phase }, { on := 5, ground := Ground.phase }, { on := 6, ground := Ground.phase }, { on := 7, ground := Ground.phase }, { on := 8, ground := Ground.phase }, { on := 9, ground := Ground.phase }, { on := 10, ground := Ground.phase }, { on := 11, ground := Ground.phase }, { on := 12, ground := Ground.phase }, { on := 13, ground := Ground.phase }, { on := 14, ground := Ground.phase }, { on := 15, ground := Ground.phase }, { on := 16, ground := Ground.phase }, { on := 17, ground := Ground.phase }], guard := none }) rfl (fun K hK => ?_) AllReadyH.nil
                  try go_simp
                  try go_wp2_with fail
                  refine hK.out _ _ ?_ (fun hHeld => ?_)
                  · (try dsimp only)
                    go_keep
                  clear hK K
                  try simp only [Act.put, List.setIfInBounds_toArray, List.set_cons_zero, List.set_cons_succ]
                  refine wpAnyH_done (by kernel_rfl) ?_ _
                  go_wp2_with fail
                  go_meet
                  exact ⟨_, _, rfl, Lib.hid (TwoAt.put (Y17.out.below (Below.refl _ _)) (B15.out.size) (B15.out.trans (B17.out.mono B15.out.size)) ((B17.out.block _ G15.out.2).trans G15.out.1) (Nat.le_refl _))⟩
                · skip
                  try go_simp
                  try go_wp2_with fail
                  refine hK.out _ _ ?_ (fun hHeld => ?_)
                  · (try dsimp only)
                    go_keep
                  clear hK K
                  try simp only [Act.put, List.setIfInBounds_toArray, List.set_cons_zero, List.set_cons_succ]
                  have B17 : Hid (Below wr.heap.size wr (wr.alloc (.cells #[.int .i64 0, .slice none 0 0, .bool false, .slice none 0 0, .slice none 0 0] 28)).drew) := ((Below.refl _ _).alloc (Nat.le_refl _) _).drew
                  have Y17 : Hid (C5 (wr.alloc (.cells #[.int .i64 0, .slice none 0 0, .bool false, .slice none 0 0, .slice none 0 0] 28)).drew wr.heap.size (.int .i64 0) (.slice none 0 0) (.bool false) (.slice none 0 0) (.slice none 0 0)) := C5.new wr (.int .i64 0) (.slice none 0 0) (.bool false) (.slice none 0 0) (.slice none 0 0)
                  generalize (wr.alloc (.cells #[.int .i64 0, .slice none 0 0, .bool false, .slice none 0 0, .slice none 0 0] 28)).drew = w17 at *
                  clear a1 x0 x1 x2 x3 y0 y1 y2 y3
                  obtain ⟨a1, ⟨x0, x1, x2, x3⟩, ⟨y0, y1, y2, y3⟩⟩ := HAL.out _ B17.out
                  refine wpAnyH_ready (rs := [15]) (by kernel_rfl) (by simp) ?_
                  refine AllReadyH.cons (o := { dst := some 52, op := Op.buildSlice 23 2 #[(0, Operand.tmp 43), (1, Operand.tmp 51)], type := 23, pos := "graph.go:60", after := #[{ on := 6, ground := Ground.data }, { on := 14, ground := Ground.data }], guard := none }) rfl (fun K hK => ?_) AllReadyH.nil
                  try go_simp
                  try go_wp2_with fail
                  refine hK.out _ _ ?_ (fun hHeld => ?_)
                  · (try dsimp only)
                    go_keep
                  clear hK K
                  try simp only [Act.put, List.setIfInBounds_toArray, List.set_cons_zero, List.set_cons_succ]
                  have B15 : Hid (Below w17.heap.size w17 (w17.alloc (.cells #[.int .i64 tx.v, .bool tx.r.s, .slice tx.r.A tx.r.n tx.r.c, .slice tx.r.B tx.r.m tx.r.d, .int .i64 ty.v, .bool ty.r.s, .slice ty.r.A ty.r.n ty.r.c, .slice ty.r.B ty.r.m ty.r.d] 42))) := ((Below.refl _ _).alloc (Nat.le_refl _) _)
                  have G15 : Hid ((w17.alloc (.cells #[.int .i64 tx.v, .bool tx.r.s, .slice tx.r.A tx.r.n tx.r.c, .slice tx.r.B tx.r.m tx.r.d, .int .i64 ty.v, .bool ty.r.s, .slice ty.r.A ty.r.n ty.r.c, .slice ty.r.B ty.r.m ty.r.d] 42)).heap[w17.heap.size]? = some (.cells #[.int .i64 tx.v, .bool tx.r.s, .slice tx.r.A tx.r.n tx.r.c, .slice tx.r.B tx.r.m tx.r.d, .int .i64 ty.v, .bool ty.r.s, .slice ty.r.A ty.r.n ty.r.c, .slice ty.r.B ty.r.m ty.r.d] 42 (0, 0)) ∧ w17.heap.size < (w17.alloc (.cells #[.int .i64 tx.v, .bool tx.r.s, .slice tx.r.A tx.r.n tx.r.c, .slice tx.r.B tx.r.m tx.r.d, .int .i64 ty.v, .bool ty.r.s, .slice ty.r.A ty.r.n ty.r.c, .slice ty.r.B ty.r.m ty.r.d] 42)).heap.size) := ⟨heap_alloc_new w17 _, by simp⟩
                  generalize (w17.alloc (.cells #[.int .i64 tx.v, .bool tx.r.s, .slice tx.r.A tx.r.n tx.r.c, .slice tx.r.B tx.r.m tx.r.d, .int .i64 ty.v, .bool ty.r.s, .slice ty.r.A ty.r.n ty.r.c, .slice ty.r.B ty.r.m ty.r.d] 42)) = w15 at *
                  clear a1 x0 x1 x2 x3 y0 y1 y2 y3
                  obtain ⟨a1, ⟨x0, x1, x2, x3⟩, ⟨y0, y1, y2, y3⟩⟩ := HAL.out _ (B17.out.trans (B15.out.mono B17.out.size))
                  have kY := Y17.out.below B15.out
                  obtain ⟨z0, z1, z2, z3, z4⟩ := kY.facts
                  obtain ⟨t0, t1, t2, t3, t4⟩ := kY.thaw
                  clear kY
                  have mA : ¬ bc = wr.heap.size := by have := HLT.out.1; omega
                  have mB : ¬ bk = wr.heap.size := by have := HLT.out.2; omega
                  have mC : ¬ wr.heap.size = bc := fun e => mA e.symm
                  have mD : ¬ wr.heap.size = bk := fun e => mB e.symm
                  refine wpAnyH_take (i := 16) (oi := { dst := some 53, op := Op.build 28 #[(1, Operand.tmp 52)], type := 28, pos := "graph.go:60", after := #[{ on := 15, ground := Ground.data }], guard := none }) (v := ?vq17x) rfl (by kernel_rfl) (by kernel_rfl) (by kernel_rfl) (fun _ _ _ h => h) (Or.inl ⟨by rfl, ?hyq17x⟩) (by assumption) ?restq17x
                  case hyq17x =>
                    intro w hSw
                    (try dsimp only at hSw)
                    go_simp
                    all_goals (with_reducible rfl)
                  try simp only [Act.put, List.setIfInBounds_toArray, List.set_cons_zero, List.set_cons_succ]
                  refine wpAnyH_ready (rs := [18]) (by kernel_rfl) (by simp) ?_
                  refine AllReadyH.cons (o := { dst := none, op := Op.store 28 (Operand.tmp 8) (Operand.tmp 53), type := 0, pos := "graph.go:60", after := #[{ on := 17, ground := Ground.data }, { on := 16, ground := Ground.data }, { on := 0, ground := Ground.phase }, { on := 1, ground := Ground.phase }, { on := 2, ground := Ground.phase }, { on := 3, ground := Ground.phase }, { on := 4, ground := Ground.phase }, { on := 5, ground := Ground.phase }, { on := 6, ground := Ground.phase }, { on := 7, ground := Ground.phase }, { on := 8, ground := Ground.phase }, { on := 9, ground := Ground.phase }, { on := 10, ground := Ground.phase }, { on := 11, ground := Ground.phase }, { on := 12, ground := Ground.phase }, { on := 13, ground := Ground.phase }, { on := 14, ground := Ground.phase }, { on := 15, ground := Ground.phase }, { on := 16, ground := Ground.phase }, { on := 17, ground := Ground.phase }], guard := none }) rfl (fun K hK => ?_) AllReadyH.nil
                  try go_simp
                  try go_wp2_with fail
                  refine hK.out _ _ ?_ (fun hHeld => ?_)
                  · (try dsimp only)
                    go_keep
                  clear hK K
                  try simp only [Act.put, List.setIfInBounds_toArray, List.set_cons_zero, List.set_cons_succ]
                  refine wpAnyH_done (by kernel_rfl) ?_ _
                  go_wp2_with fail
                  go_meet
                  exact ⟨_, _, rfl, Lib.hid (TwoAt.put (Y17.out.below B15.out) (Nat.le_refl _) (B17.out.trans (B15.out.mono B17.out.size)) (((Below.refl _ _).block _ G15.out.2).trans G15.out.1) (B17.out.size))⟩
              case rest =>
                obtain ⟨Y, G, rfl, HT⟩ := hcut
                clear a1 x0 x1 x2 x3 y0 y1 y2 y3
                obtain ⟨z0, z1, z2, z3, z4⟩ := HT.out.cell.facts
                go_wp2_with fail
                refine (rjoin_c A2 c2 N w.heap.size (starTo (runN N (cs.take i)) cc j) [nth cc 0, nth cc (j + 1)] (tv2 G) wc (HR.out.1.below HT.out.below) h64 rfl ?_ (show 2 ≤ 1000 by omega) (fun _ => HT.out.tms (by rw [HE.out]; exact HX0.out.1) (by rw [HE.out]; exact HX1.out.1) fun ad ha => (HR.out.1.lt' ad ha).2)).mono ?_
                · intro q hq
                  simp only [List.mem_cons, List.not_mem_nil, or_false] at hq
                  rcases hq with rfl | rfl
                  · rw [HE.out]; exact HX0.out.2
                  · rw [HE.out]; exact HX1.out.2
                intro e w5 hrj
                obtain ⟨r, rfl, ho5, hg5⟩ := hrj.two
                have HR5 : Hid (OwnN w5 w.heap.size A2 c2 N (starTo (runN N (cs.take i)) cc (j + 1)) ∧ Below w.heap.size w w5) := ⟨ho5, far_joined (HR.out.2.trans (HT.out.below.mono HR.out.2.size)) (HR.out.1.below HT.out.below) hg5⟩
                clear ho5 hg5 hrj z0 z1 z2 z3 z4 HT HR
                go_wp2
                go_roundw
                case rel => exact ⟨j + 1, .inr hjn, by go_num, HR5⟩
                case measure => simp [intOf]; omega
            · have e : j = cc.length - 1 := by have := HCL.out; omega
              have HF : Hid (OwnN wr w.heap.size A2 c2 N (runN N (cs.take (i + 1))) ∧ Below w.heap.size w wr) := by
                have := HR.out
                rw [e] at this
                refine ⟨?_, this.2⟩
                rw [runN_succ HCI.out.1]
                obtain ⟨K, hK, hRt, _⟩ := runN_rts (N := N) (cs := cs.take i) fun c hc => HBN.out c (List.mem_of_mem_take hc)
                rw [← star_step hRt hK (HBN.out cc (List.mem_of_getElem? HCI.out.1))]
                exact this.1
              have j1 : ¬ (j : Int) + 1 < (va.n : Int) := by omega
              clear e HR
              go_wp2
              go_roundw
              case rel => exact ⟨i + 1, by omega, by go_num, HF⟩
              case measure => simp [intOf]; omega
        · go_wp2_with fail
          refine (rIsK_c va (N : Int) la L k wr (by omega) HGI.out.cap (HGI.out.below HB0R.out).row (HLK.out.1.more (by omega)) (HLK.out.2.more (by omega)) v1000 false ⟨fun h => (by cases h), fun h => absurd ((HGI.out.turn HB0R.out _).2 h) hs⟩).mono ?_
          rintro e w2 ⟨rfl, hb2⟩
          have hcc0 : cc = [] := HCI.out.2.symm.trans (vr_no hs)
          have HT : Hid (OwnN w2 w.heap.size A2 c2 N (runN N (cs.take (i + 1))) ∧ Below w.heap.size w w2) := by
            refine ⟨?_, HR.out.2.trans (hb2.mono HR.out.2.size)⟩
            rw [runN_succ HCI.out.1, hcc0]; exact HR.out.1.below hb2
          clear k0 k1 k2 k3 k4 hb2 HR HB0R HGI hs hcc0 H5 HCI HBC
          go_wp2
          go_roundw
          case rel => exact ⟨i + 1, by omega, by go_num, HT⟩
          case measure => simp [intOf]; omega
      · have e : cs.take i = cs := List.take_of_length_le (by have := HL.out; omega)
        have HF : Hid (OwnN wr w.heap.size A2 c2 N (runN N cs) ∧ Below w.heap.size w wr) := by have := HR.out; rw [e] at this; exact this
        have i1 : ¬ (i : Int) < (m : Int) := by omega
        clear e HR
        go_wp2
        go_ret
        exact ⟨_, _, rfl, HF.out.1, HF.out.2⟩
end Go.Proofs.Ytkfkjdpkkagjgaa
