/-
  The program's First, Forest, Apart.
-/
import Derived.Test.YtjbhhccklfddaaaVGrC
namespace Go.Proofs.Ytjbhhccklfddaaa
set_option maxRecDepth 20000
open Go.RowKit
structure Gns (w : World) (A : Option Addr) (m : Nat) (ps : List (Cv × List Tv)) : Prop where
 kons : Kons w A m (ps.map (·.1))
 each : ∀ x ∈ ps, Gin w x
 le : m ≤ 1000
theorem Gns.len {w : World} {A : Option Addr} {m : Nat} {ps : List (Cv × List Tv)} (h : Gns w A m ps) : ps.length = m := by have := h.kons.len; rwa [List.length_map] at this
noncomputable def csOf (w : World) (N : Nat) (ps : List (Cv × List Tv)) : List (List Nat) := ps.map (vr w N)
theorem csOf_bnd (w : World) (N : Nat) (ps : List (Cv × List Tv)) : bnd N (csOf w N ps) := by
 intro c hc v hv
 obtain ⟨x, _, rfl⟩ := List.mem_map.1 hc
 exact vr_bnd w N x v hv
def FstPost (N : Nat) (cs : List (List Nat)) (w : World) (e : Ending) (w' : World) : Prop := ∃ k : Int, e = .returned (.int .i64 k) ∧ IsFst N cs k ∧ Below w.heap.size w w'
set_option maxHeartbeats 6400000 in
theorem First_c (n : Int) (N : Nat) (hN : bndN n = N) (A : Option Addr) (m c : Nat) (ps : List (Cv × List Tv)) (cs : List (List Nat)) (w0 w : World) (hp : Gns w0 A m ps) (hcs : csOf w0 N ps = cs) (hb0 : Below w0.heap.size w0 w) :
  Calls Try.prog 60 #[.slice A m c, .int .i64 n] w (FstPost N cs w) := by
 have HP := Lib.hid hp
 have HB0 := Lib.hid hb0
 have HC := Lib.hid hcs
 have h64 : N ≤ 64 := by rw [← hN]; exact bndN_le n
 have HL : Hid (cs.length = m) := by show _ = _; rw [← hcs, csOf, List.length_map]; exact hp.len
 have m0 : (0 : Int) ≤ (m : Int) := by omega
 have m1 : (m : Int) ≤ 1000 := by have := hp.le; omega
 clear hp hb0 hcs
 go_enter Try.func60, Try.ntmps60
 go_wp2_with fail
 refine (alone_c n N hN w).mono ?_
 rintro e w1 ⟨g, rfl, ho, hb⟩
 have HO : Hid (OwnN w1 w.heap.size (some ⟨g, 0, none⟩) N N (runN N (cs.take 0)) ∧ Below w.heap.size w w1) := ⟨by rw [List.take_zero]; exact ho, hb⟩
 clear ho hb
 go_wp2_with fail
 go_loopw [4, 6, 7, 12] (fun _ _ _ iv wr => ∃ i : Nat, i ≤ m ∧ iv = .int .i64 i ∧ Hid (OwnN wr w.heap.size (some ⟨g, 0, none⟩) N N (runN N (cs.take i)) ∧ Below w.heap.size w wr ∧ ∀ j, j < i → ¬ ringAt N cs j)) (fun _ _ _ iv _ => m - (intOf iv).toNat)
 case atStart => exact ⟨0, Nat.zero_le _, rfl, Lib.hid ⟨HO.out.1, HO.out.2, fun j hj => absurd hj (Nat.not_lt_zero _)⟩⟩
 case round =>
  clear HO
  obtain ⟨i, hi, rfl, HR⟩ := hrel
  have i0 : (0 : Int) ≤ (i : Int) := by omega
  by_cases hlt : i < m
  ·
   have i1 : (i : Int) < (m : Int) := by omega
   have hil : i < ps.length := by have := HP.out.len; omega
   obtain ⟨b, off, hA, hbw, hcc⟩ := HP.out.kons.mem (by omega)
   have hx := List.getElem?_eq_getElem hil
   have hxm : (ps.map (·.1))[i]? = some ps[i].1 := by rw [List.getElem?_map, hx]; rfl
   have hci : cs[i]? = some (vr w0 N ps[i]) := by rw [← HC.out, csOf, List.getElem?_map, hx]; rfl
   have HGI := Lib.hid (HP.out.each _ (List.getElem_mem hil))
   have HB0R : Hid (Below w0.heap.size w0 wr) := HB0.out.trans (HR.out.2.1.mono HB0.out.size)
   obtain ⟨k0, k1, k2, k3, k4⟩ := (hcc i _ hxm).keep (HB0R.out.block b hbw)
   generalize ps[i] = x at *
   obtain ⟨va, la⟩ := x
   obtain ⟨cc, hcc2⟩ : ∃ cc, cc = vr w0 N (va, la) := ⟨_, rfl⟩
   rw [← hcc2] at hci
   have HCI := Lib.hid (And.intro hci hcc2.symm)
   replace k0 : wr.cell? ⟨b, off + i * 5, none⟩ = some (.int .i64 va.s) := k0
   replace k1 : wr.cell? ⟨b, off + i * 5 + 1, none⟩ = some (.slice va.A va.n va.c) := k1
   replace k2 : wr.cell? ⟨b, off + i * 5 + 2, none⟩ = some (.bool va.K.s) := k2
   replace k3 : wr.cell? ⟨b, off + i * 5 + 3, none⟩ = some (.slice va.K.A va.K.n va.K.c) := k3
   replace k4 : wr.cell? ⟨b, off + i * 5 + 4, none⟩ = some (.slice va.K.B va.K.m va.K.d) := k4
   subst hA
   clear hx hxm hcc hci hcc2
   have HBW : Hid (Below wr.heap.size wr (wr.alloc (.cells #[.int .i64 va.s, .slice va.A va.n va.c, .bool va.K.s, .slice va.K.A va.K.n va.K.c, .slice va.K.B va.K.m va.K.d] 43))) := (Below.refl _ _).alloc (Nat.le_refl _) _
   go_wp2_with fail
   refine (take_c g N w.heap.size (runN N (cs.take i)) cc va la w0 _ HCI.out.2 HGI.out (HB0R.out.trans (HBW.out.mono HB0R.out.size)) (HR.out.1.below HBW.out) HB0.out.size h64).mono ?_
   rintro ee w2 ⟨⟨r, rfl, hr⟩, ho2, hg2⟩
   have HT : Hid ((r = true ↔ ringAt N cs i) ∧ OwnN w2 w.heap.size (some ⟨g, 0, none⟩) N N (runN N (cs.take (i + 1))) ∧ Below w.heap.size w w2) := by
    refine ⟨?_, ?_, ?_⟩
    · unfold ringAt; rw [getD_get HCI.out.1]; exact hr
    · rw [runN_succ HCI.out.1]; exact ho2
    · exact (HR.out.2.1.trans (HBW.out.mono HR.out.2.1.size)).trans (below_of_grown_row hg2 HR.out.1.lt.1 (by have := HR.out.2.1.size; have := HBW.out.size; omega))
   have HNR := Lib.hid HR.out.2.2
   clear k0 k1 k2 k3 k4 hr ho2 hg2 HR HBW HB0R HGI
   cases r with
   |
    true =>
    go_wp2
    go_ret
    exact ⟨(i : Int), rfl, .inr ⟨i, rfl, by have := HL.out; omega, HT.out.1.1 (by trivial), HNR.out⟩, HT.out.2.2⟩
   |
    false =>
    go_wp2
    go_roundw
    case rel =>
     refine ⟨i + 1, by omega, by go_num, Lib.hid ⟨HT.out.2.1, HT.out.2.2, fun j hj => ?_⟩⟩
     by_cases e : j = i
     · rw [e]; exact fun h => by have := HT.out.1.2 h; cases this
     · exact HNR.out j (by omega)
    case measure => simp [intOf]; omega
  ·
   have e : i = cs.length := by have := HL.out; omega
   have HF : Hid (IsFst N cs (-1)) := .inl ⟨rfl, by rw [← e]; exact HR.out.2.2⟩
   have HB := Lib.hid HR.out.2.1
   have i1 : ¬ (i : Int) < (m : Int) := by omega
   clear e HR
   go_wp2
   go_ret
   exact ⟨-1, rfl, HF.out, HB.out⟩
set_option maxHeartbeats 1600000 in
theorem Forest_c (n : Int) (N : Nat) (hN : bndN n = N) (A : Option Addr) (m c : Nat) (ps : List (Cv × List Tv)) (cs : List (List Nat)) (w0 w : World) (hp : Gns w0 A m ps) (hcs : csOf w0 N ps = cs) (hb0 : Below w0.heap.size w0 w) :
  Calls Try.prog 46 #[.slice A m c, .int .i64 n] w fun e w' => BPost (failN N cs = 0) e ∧ Below w.heap.size w w' := by
 go_enter Try.func46, Try.ntmps46
 go_wp2_with fail
 refine (First_c n N hN A m c ps cs w0 w hp hcs hb0).mono ?_
 rintro e w1 ⟨k, rfl, hk, hb⟩
 have HF := Lib.hid hk.forest
 have HB := Lib.hid hb
 clear hk hb
 go_wp2
 go_ret
 exact ⟨⟨decide (k < 0), rfl, by rw [decide_eq_true_iff]; exact HF.out⟩, HB.out⟩
end Go.Proofs.Ytjbhhccklfddaaa
