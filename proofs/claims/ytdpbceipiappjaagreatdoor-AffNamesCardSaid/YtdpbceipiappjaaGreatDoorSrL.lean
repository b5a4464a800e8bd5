/-
  The document's names of a tree.
-/
import Derived.Test.YtdpbceipiappjaaGreatDoorSrK
namespace Go.Proofs.YtdpbceipiappjaaGreatDoor
set_option maxRecDepth 20000
open Go.RowKit

def nmsUp (ms : Nat → List ByteArray) : Nat → List ByteArray
  | 0 => []
  | i + 1 => nmsUp ms i ++ ms i
def upK (ks : Nat → Nat) : Nat → Nat
  | 0 => 0
  | i + 1 => upK ks i + ks i
theorem upK_mono {ks : Nat → Nat} {i : Nat} : ∀ {n : Nat}, i ≤ n → upK ks i ≤ upK ks n
  | 0, h => by obtain rfl : i = 0 := by omega
               exact Nat.le_refl _
  | n + 1, h => by
    by_cases e : i = n + 1
    · subst e; exact Nat.le_refl _
    · have := upK_mono (ks := ks) (i := i) (n := n) (by omega)
      show _ ≤ upK ks n + ks n
      omega
/-- The names so far. -/
structure LAt (W wr : World) (A : Option Addr) (p e : Nat) (l m : List ByteArray) (k : Nat) : Prop where
  own : OwnS wr W.heap.size A e p l
  eq : NmEq l m
  sz : ∀ s ∈ l, s.size ≤ 1000
  cnt : p ≤ k
  cap : p ≤ e
  below : Below W.heap.size W wr
theorem LAt.next {W wr w2 : World} {A : Option Addr} {p e k : Nat} {l m : List ByteArray} (h : LAt W wr A p e l m k) (hb : Below wr.heap.size wr w2) : LAt W w2 A p e l m k :=
  ⟨h.own.below hb, h.eq, h.sz, h.cnt, h.cap, h.below.trans (hb.mono h.below.size)⟩
/-- The names so far, and the row that is gone through. -/
structure NMt (W wr : World) (A : Option Addr) (p e : Nat) (l m : List ByteArray) (k : Nat) (B : Option Addr) (n : Nat) (lm : List ByteArray) : Prop where
  lat : LAt W wr A p e l m k
  row : Strs wr B n lm
  apart : ∀ ad bd, A = some ad → B = some bd → ad.block ≠ bd.block
theorem grown_below {W w w' : World} {A : Option Addr} (h : Below W.heap.size W w) (hg : w.grownBy w' (A.map (·.block))) (hA : ∀ ad, A = some ad → W.heap.size ≤ ad.block) : Below W.heap.size W w' := by
  refine ⟨hg.os.trans h.os, hg.tape.trans h.tape, hg.output.trans h.output, Nat.le_trans h.size hg.size, fun q hq => (hg.block q (Nat.lt_of_lt_of_le hq h.size) ?_).trans (h.block q hq)⟩
  cases A with
  | none => simp
  | some ad =>
    have := hA ad rfl
    simp; omega
theorem Strs.grown {w w' : World} {A : Option Addr} {n : Nat} {ss : List ByteArray} {row : Option Nat} (h : Strs w A n ss) (hg : w.grownBy w' row) (hne : ∀ ad, A = some ad → some ad.block ≠ row) : Strs w' A n ss :=
  ⟨h.len, h.sz, fun hn => by
    obtain ⟨b, off, e, h1, hc⟩ := h.mem hn
    exact ⟨b, off, e, Nat.lt_of_lt_of_le h1 hg.size, fun j s hj => (World.cell?_of_block (hg.block b h1 (hne _ e))).trans (hc j s hj)⟩⟩
theorem Strs.lt {w : World} {A : Option Addr} {n : Nat} {ss : List ByteArray} (h : Strs w A n ss) (hn : 0 < n) : ∀ ad, A = some ad → ad.block < w.heap.size := by
  intro ad e
  obtain ⟨b, off, e', h1, _⟩ := h.mem hn
  rw [e'] at e; injection e with e; subst e; exact h1
set_option maxHeartbeats 3200000 in
theorem Names_nm (y : Rv) (st : ByteArray) (K : Option Addr) (c : Nat) (w : World) (hs : st.size ≤ 1000) :
    Calls Tryz.prog 7 #[.agg #[.int .i64 2, .bool y.s, .slice y.A y.n y.c, .slice y.B y.m y.d, .string st, .slice K 0 c]] w (NPost w [st] 1) := by
  have k_e := C6.new w (.int .i64 2) (.bool y.s) (.slice y.A y.n y.c) (.slice y.B y.m y.d) (.string st) (.slice K 0 c)
  have hb0 := (Below.refl w.heap.size w).alloc (Nat.le_refl _) (.cells #[.int .i64 2, .bool y.s, .slice y.A y.n y.c, .slice y.B y.m y.d, .string st, .slice K 0 c] 27)
  have HSZ := Lib.hid hs
  clear hs
  obtain ⟨e0, e1, e2, e3, e4, e5⟩ := k_e.facts
  go_enter Tryz.func7, Tryz.ntmps7
  have hs1 : (w.alloc (.cells #[.int .i64 2, .bool y.s, .slice y.A y.n y.c, .slice y.B y.m y.d, .string st, .slice K 0 c] 27)).heap.size = w.heap.size + 1 := by simp
  have hx : ((w.alloc (.cells #[.int .i64 2, .bool y.s, .slice y.A y.n y.c, .slice y.B y.m y.d, .string st, .slice K 0 c] 27)).alloc (.cells #[.string st] 9)).cell? ⟨w.heap.size + 1, 0, none⟩ = some (.string st) := by rw [World.cell?_alloc_at _ _ _ _ (by simp)]; rfl
  have HX := Lib.hid hx
  have HS1 := Lib.hid hs1
  clear hx hs1
  go_wp2_with (at_builtin; refine wps_append rfl _ _ rfl rfl rfl (OwnS.nil_ _ (w.heap.size + 1)) HX.out (by omega) ?c2 ?_)
  case c2 => simp
  intro A2 c2 w2 hg2 hgr hwh
  have hal : Below w.heap.size w ((w.alloc (.cells #[.int .i64 2, .bool y.s, .slice y.A y.n y.c, .slice y.B y.m y.d, .string st, .slice K 0 c] 27)).alloc (.cells #[.string st] 9)) := hb0.alloc hb0.size _
  have hb2 : Below w.heap.size w w2 := grown_below (A := none) hal hgr (fun ad e => by cases e)
  have hbE : Below (w.alloc (.cells #[.int .i64 2, .bool y.s, .slice y.A y.n y.c, .slice y.B y.m y.d, .string st, .slice K 0 c] 27)).heap.size (w.alloc (.cells #[.int .i64 2, .bool y.s, .slice y.A y.n y.c, .slice y.B y.m y.d, .string st, .slice K 0 c] 27)) w2 := grown_below (A := none) ((Below.refl _ _).alloc (Nat.le_refl _) _) hgr (fun ad e => by cases e)
  have k2 := k_e.below hbE
  have HG := Lib.hid hg2
  clear e0 e1 e2 e3 e4 e5 hgr hwh hal hg2 hbE k_e hb0
  obtain ⟨e0, e1, e2, e3, e4, e5⟩ := k2.facts
  go_wp2
  go_loopw [3, 4, 5, 6] (fun lv iv _ _ wr => lv = .slice A2 1 c2 ∧ iv = .int .i64 0 ∧ wr = w2) (fun _ _ _ _ _ => 0)
  case atStart => exact ⟨rfl, rfl, rfl⟩
  case round =>
    obtain ⟨rfl, rfl, rfl⟩ := hrel
    go_wp2
    go_ret
    have h1 := HG.out.own
    refine ⟨A2, 1, c2, [st], rfl, HG.out.lower (Nat.le_succ _), NmEq.refl _, fun s hs => ?_, Nat.le_refl _, ?_, hb2⟩
    · rcases List.mem_cons.1 hs with rfl | hs
      · exact HSZ.out
      · cases hs
    · rcases h1.2 with ⟨hv, h0⟩ | ⟨g, cap, cur, hv, _, _, hc, _⟩
      · omega
      · injection hv with _ _ hc2; omega
theorem OwnS.capLe {w : World} {lo c n : Nat} {A : Option Addr} {l : List ByteArray} (h : OwnS w lo A c n l) : n ≤ c := by
  rcases h.own.2 with ⟨hv, hn⟩ | ⟨g, cap, cur, hv, _, _, hc, _⟩
  · omega
  · injection hv with _ _ hc2; omega
set_option maxHeartbeats 12800000 in
theorem Names_gen (k : Int) (y : Rv) (st : ByteArray) (K : Option Addr) (n c : Nat) (xs : Nat → Ev) (ms : Nat → List ByteArray) (ks : Nat → Nat) (w : World) (hk : (k == 2) = false) (hn : n ≤ 2)
    (hx : ∀ i, i < n → ∃ b off, K = some ⟨b, off, none⟩ ∧ b < w.heap.size ∧ At6 w b (off + i * 6) (xs i)) (hks : ∀ i, ks i ≤ 1000) (hup : upK ks n ≤ 2000)
    (IH : ∀ i, i < n → ∀ w', Below w.heap.size w w' → Calls Tryz.prog 7 #[.agg #[.int .i64 (xs i).k, .bool (xs i).r.s, .slice (xs i).r.A (xs i).r.n (xs i).r.c, .slice (xs i).r.B (xs i).r.m (xs i).r.d, .string (xs i).s, .slice (xs i).K (xs i).n (xs i).c]] w' (NPost w' (ms i) (ks i))) :
    Calls Tryz.prog 7 #[.agg #[.int .i64 k, .bool y.s, .slice y.A y.n y.c, .slice y.B y.m y.d, .string st, .slice K n c]] w (NPost w (nmsUp ms n) (upK ks n)) := by
  have k_e := C6.new w (.int .i64 k) (.bool y.s) (.slice y.A y.n y.c) (.slice y.B y.m y.d) (.string st) (.slice K n c)
  have hb0 := (Below.refl w.heap.size w).alloc (Nat.le_refl _) (.cells #[.int .i64 k, .bool y.s, .slice y.A y.n y.c, .slice y.B y.m y.d, .string st, .slice K n c] 27)
  have HIH := Lib.hid IH
  have HXS := Lib.hid hx
  have HKS := Lib.hid hks
  have HUP := Lib.hid hup
  have n0 : (0 : Int) ≤ (n : Int) := by omega
  have n9 : (n : Int) ≤ 2 := by omega
  clear IH hx hks hup
  obtain ⟨e0, e1, e2, e3, e4, e5⟩ := k_e.facts
  go_enter Tryz.func7, Tryz.ntmps7
  have HW := Lib.hid (And.intro k_e hb0)
  clear k_e hb0
  go_wp2
  clear e0 e1 e2 e3 e4 e5
  generalize w.alloc (.cells #[.int .i64 k, .bool y.s, .slice y.A y.n y.c, .slice y.B y.m y.d, .string st, .slice K n c] 27) = W at *
  go_loopw [3, 4, 5, 6] (fun lv iv _ _ wr => ∃ (i : Nat) (A : Option Addr) (p e : Nat) (l : List ByteArray), i ≤ n ∧ iv = .int .i64 i ∧ lv = .slice A p e ∧ Hid (LAt W wr A p e l (nmsUp ms i) (upK ks i) ∧ upK ks i ≤ upK ks n)) (fun _ iv _ _ _ => n - (intOf iv).toNat)
  case atStart => exact ⟨0, none, 0, 0, [], by omega, rfl, rfl, Lib.hid ⟨⟨OwnS.nil_ _ _, NmEq.refl _, fun s hs => (by cases hs), Nat.le_refl _, Nat.le_refl _, Below.refl _ _⟩, Nat.zero_le _⟩⟩
  case round =>
    obtain ⟨i, A, p, e, l, hi, rfl, rfl, HL⟩ := hrel
    have i0 : (0 : Int) ≤ (i : Int) := by omega
    obtain ⟨e0, e1, e2, e3, e4, e5⟩ := (HW.out.1.below HL.out.1.below).facts
    by_cases hlt : i < n
    · have i1 : (i : Int) < (n : Int) := by omega
      obtain ⟨b, off, rfl, hbl, hc⟩ := HXS.out i hlt
      have HB := Lib.hid (HW.out.2.trans (HL.out.1.below.mono HW.out.2.size))
      obtain ⟨x0, x1, x2, x3, x4, x5⟩ := hc.keep (HB.out.block b hbl)
      have HC := Lib.hid (HIH.out i hlt _ HB.out)
      clear hc
      generalize xs i = x at *
      go_wp2_with fail
      refine HC.out.mono ?_
      rintro e9 w2 ⟨Am, nm, cm, lm, rfl, hom, hnm, hsm, hkm, hcm, hb⟩
      have HL2 := Lib.hid (HL.out.1.next hb)
      have HM := Lib.hid (And.intro hnm (And.intro hsm (And.intro hkm (HKS.out i))))
      have HR : Hid (Strs w2 Am nm lm) := hom.strs hsm
      have HAP : Hid (∀ ad bd, A = some ad → Am = some bd → ad.block ≠ bd.block) := fun ad bd h1 h2 => by
        have h3 := (HL.out.1.own.lt ad h1).2
        have h4 := (hom.lt bd h2).1
        omega
      have m0 : (0 : Int) ≤ (nm : Int) := by omega
      have m9 : (nm : Int) ≤ 1000 := by have := HKS.out i; omega
      clear e0 e1 e2 e3 e4 e5 x0 x1 x2 x3 x4 x5 hb hom hnm hsm hkm HC
      go_wp2
      go_loopw [3, 6] (fun lv kv wr => ∃ (j : Nat) (A : Option Addr) (p e : Nat) (l : List ByteArray), j ≤ nm ∧ kv = .int .i64 j ∧ lv = .slice A p e ∧ Hid (NMt W wr A p e l (nmsUp ms i ++ lm.take j) (upK ks i + j) Am nm lm)) (fun _ kv _ => nm - (intOf kv).toNat)
      case atStart => exact ⟨0, A, p, e, l, by omega, rfl, rfl, Lib.hid ⟨by rw [List.take_zero, List.append_nil]; exact HL2.out, HR.out, HAP.out⟩⟩
      case round =>
        obtain ⟨j, A', p', e', l', hj, rfl, rfl, HMA⟩ := hrel
        have j0 : (0 : Int) ≤ (j : Int) := by omega
        by_cases hjl : j < nm
        · have j1 : (j : Int) < (nm : Int) := by omega
          obtain ⟨bm, om, rfl, hbm, hcm2⟩ := HMA.out.row.mem (by omega)
          obtain ⟨s, hs⟩ : ∃ s, lm[j]? = some s := ⟨_, List.getElem?_eq_getElem (by rw [HMA.out.row.len]; omega)⟩
          have s0 := hcm2 j s hs
          have HS := Lib.hid hs
          have HTK : Hid (nmsUp ms i ++ lm.take (j + 1) = (nmsUp ms i ++ lm.take j) ++ [s]) := by
            show _ = _
            rw [List.append_assoc, List.take_add_one, hs]; rfl
          clear hcm2 hs
          go_wp2_with fail
          refine (rHas_c A' p' e' l' s _ (HMA.out.lat.own.strs HMA.out.lat.sz) (by have h1 := HMA.out.lat.cnt; have h2 := HL.out.2; have h3 := HUP.out; omega)).mono ?_
          rintro e9 w9 ⟨rfl, rfl⟩
          cases hix : ixB s l' with
          | some q =>
            have HQ := Lib.hid (ixB_iff.1 (by rw [hix]; simp : ixB s l' ≠ none))
            clear hix
            go_wp2
            go_roundw
            case rel =>
              refine ⟨j + 1, A', p', e', l', by omega, by go_num, rfl, Lib.hid ⟨⟨HMA.out.lat.own, ?_, HMA.out.lat.sz, by have := HMA.out.lat.cnt; omega, HMA.out.lat.cap, HMA.out.lat.below⟩, HMA.out.row, HMA.out.apart⟩⟩
              rw [HTK.out]
              exact HMA.out.lat.eq.had HQ.out
            case measure => simp [intOf]; omega
          | none =>
            clear hix
            have hal : Below wr.heap.size wr (wr.alloc (.cells #[.string s] 9)) := (Below.refl _ _).alloc (Nat.le_refl _) _
            have hx : (wr.alloc (.cells #[.string s] 9)).cell? ⟨wr.heap.size, 0, none⟩ = some (.string s) := by rw [World.cell?_alloc_at _ _ _ _ rfl]; rfl
            have hsz : (wr.alloc (.cells #[.string s] 9)).heap.size = wr.heap.size + 1 := by simp
            have HX := Lib.hid (And.intro hx (And.intro hal hsz))
            clear hx hal hsz
            go_wp2_with (at_builtin; refine wps_append rfl _ _ rfl rfl rfl (HMA.out.lat.own.below HX.out.2.1) HX.out.1 ?c1 ?c2 ?_)
            case c1 => have h1 := HMA.out.lat.cnt; have h2 := HL.out.2; have h3 := HUP.out; omega
            case c2 => rw [HX.out.2.2]; have := HMA.out.lat.below.size; omega
            intro A2 c2 w3 hg2 hgr hwh
            have HLA : Hid (LAt W w3 A2 (p' + 1) c2 (l' ++ [s]) ((nmsUp ms i ++ lm.take j) ++ [s]) (upK ks i + j + 1)) :=
              ⟨hg2, HMA.out.lat.eq.snoc, (fun q hq => by
                rcases List.mem_append.1 hq with hq | hq
                · exact HMA.out.lat.sz q hq
                · rcases List.mem_cons.1 hq with rfl | hq
                  · exact HM.out.2.1 _ (List.mem_of_getElem? HS.out)
                  · cases hq), by have := HMA.out.lat.cnt; omega, hg2.capLe, grown_below (HMA.out.lat.below.trans (HX.out.2.1.mono HMA.out.lat.below.size)) hgr (fun ad e => (HMA.out.lat.own.lt ad e).1)⟩
            have HRW : Hid (Strs w3 (some ⟨bm, om, none⟩) nm lm) := (HMA.out.row.below HX.out.2.1).grown hgr (fun ad e => by
              cases A' with
              | none => simp
              | some ad' =>
                have := HMA.out.apart ad' ad rfl e
                intro h9; injection h9 with h9; exact this h9.symm)
            have HAW : Hid (∀ ad bd, A2 = some ad → (some ⟨bm, om, none⟩ : Option Addr) = some bd → ad.block ≠ bd.block) := fun ad bd h1 h2 => by
              rcases hwh with h | h
              · cases A' with
                | none => rw [h1] at h; cases h
                | some ad' =>
                  rw [h1] at h; injection h with h
                  have := HMA.out.apart ad' bd rfl h2
                  intro h9; exact this (by rw [← h9]; exact h.symm)
              · have h5 : ad.block = wr.heap.size + 1 := by rw [h1] at h; simpa using h
                have h3 : bd.block < wr.heap.size := HMA.out.row.lt (by omega) bd h2
                omega
            clear hg2 hgr hwh
            go_wp2
            go_roundw
            case rel =>
              refine ⟨j + 1, A2, p' + 1, c2, l' ++ [s], by omega, by go_num, by go_num, Lib.hid ⟨?_, HRW.out, HAW.out⟩⟩
              rw [HTK.out]
              exact HLA.out
            case measure => simp [intOf]; omega
        · have j1 : ¬ (j : Int) < (nm : Int) := by omega
          have hje : j = nm := by omega
          have HJ := Lib.hid hje
          clear hje
          go_wp2
          go_roundw
          case rel =>
            have h := HMA.out.lat
            rw [HJ.out, List.take_of_length_le (by rw [HR.out.len]; exact Nat.le_refl _)] at h
            refine ⟨i + 1, A', p', e', l', by omega, by go_num, rfl, Lib.hid ⟨⟨h.own, h.eq.trans (NmEq.app HM.out.1), h.sz, ?_, h.cap, h.below⟩, upK_mono (by omega)⟩⟩
            have h1 := h.cnt
            have h2 := HM.out.2.2.1
            show _ ≤ upK ks i + ks i
            omega
          case measure => simp [intOf]; omega
    · have i1 : ¬ (i : Int) < (n : Int) := by omega
      have hie : i = n := by omega
      have HI := Lib.hid hie
      clear hie
      go_wp2
      go_ret
      refine ⟨A, p, e, l, rfl, ?_⟩
      have h := HL.out.1
      rw [HI.out] at h
      exact ⟨h.own.lower HW.out.2.size, h.eq, h.sz, h.cnt, h.cap, HW.out.2.trans (h.below.mono HW.out.2.size)⟩
end Go.Proofs.YtdpbceipiappjaaGreatDoor
