/-
  The document's First of chapter 11.
  Has a sum a term of a variable, by the document.
-/
import Derived.Test.YtjbhhccklfddaaaVGrE
import Derived.Test.YtjbhhccklfddaaaVGrD
import Derived.Test.YtjbhhccklfddaaaVRIgz
import Derived.Test.YtjbhhccklfddaaaVDlO
namespace Go.Proofs.Ytjbhhccklfddaaa
set_option maxRecDepth 20000
open Go.RowKit
theorem IsS.tmsAt {w0 w : World} {va : Cv} {la : List Tv} {N : Nat} {A : Option Addr} (hx : Gin w0 (va, la)) (hs : IsS w0 va la (N : Int)) (hb : Below w0.heap.size w0 w) (hA : ∀ ad, A = some ad → w0.heap.size ≤ ad.block) (hn : 0 < va.n) : TmsAt w va A (vr w0 N (va, la)) := by
 obtain ⟨bk, off, e, _, hbk, hc⟩ := hx.row.mem hn
 refine ⟨bk, off, e, Nat.lt_of_lt_of_le hbk hb.size, fun ad ha => by have := hA ad ha; have : bk < w0.heap.size := hbk; omega, fun j hj => ?_⟩
 have hjl : j < la.length := by have : la.length = va.n := hx.row.len; omega
 have h1 := ((hc j _ (List.getElem?_eq_getElem hjl)).keep (hb.block bk hbk)).h0
 rw [(hs.var (List.getElem?_eq_getElem hjl)).1] at h1
 rw [vr_yes hs]
 exact h1
theorem OwnN.lt' {w : World} {lo c n : Nat} {A : Option Addr} {l : List Nat} (h : OwnN w lo A c n l) : ∀ ad, A = some ad → lo ≤ ad.block ∧ ad.block < w.heap.size := by
 intro ad e
 subst e
 exact h.own.lt ad.block rfl
theorem far_joined {w w1 w2 : World} {A : Option Addr} {c n : Nat} {l : List Nat} (hb : Below w.heap.size w w1) (ho : OwnN w1 w.heap.size A c n l) (hg : w1.grownBy w2 (A.map (·.block))) : Below w.heap.size w w2 := by
 refine hb.grown hg hb.size ?_
 intro k hk
 cases A with
 | none => simp at hk
 | some ad => simp at hk; subst hk; exact (ho.lt' ad rfl).1
set_option maxHeartbeats 12800000 in
theorem rFirst_c (n : Int) (N : Nat) (hN : bndN n = N) (A : Option Addr) (m c : Nat) (ps : List (Cv × List Tv)) (cs : List (List Nat)) (w0 w : World) (hp : Gns w0 A m ps) (hcs : csOf w0 N ps = cs) (hb0 : Below w0.heap.size w0 w) :
  Calls Try.prog 24 #[.slice A m c, .int .i64 n] w (FstPost N cs w) := by
 have HP := Lib.hid hp
 have HB0 := Lib.hid hb0
 have HC := Lib.hid hcs
 have HN := Lib.hid hN
 have h64 : N ≤ 64 := by rw [← hN]; exact bndN_le n
 have HL : Hid (cs.length = m) := by show _ = _; rw [← hcs, csOf, List.length_map]; exact hp.len
 have HBN : Hid (bnd N cs) := hcs ▸ csOf_bnd w0 N ps
 have m0 : (0 : Int) ≤ (m : Int) := by omega
 have m1 : (m : Int) ≤ 1000 := by have := hp.le; omega
 clear hp hb0 hcs hN
 go_enter Try.func24, Try.ntmps24
 go_upto_region 1 with fail
 go_cut [1] (fun v wx => v = .int .i64 (N : Int) ∧ w = wx)
 case first =>
  have hn1 := bndN_int n
  rw [HN.out] at hn1
  have E := Lib.hid hn1
  clear hn1
  go_wp2
  go_meet
  exact ⟨by rw [E.out], rfl⟩
 case rest =>
  obtain ⟨rfl, rfl⟩ := hcut
  have n0 : (0 : Int) ≤ (N : Int) := by omega
  have n1 : (N : Int) ≤ 64 := by omega
  go_wp2_with fail
  refine (start_c N h64 w).mono ?_
  rintro e w1 ⟨A2, c2, rfl, ho, hb⟩
  have HO : Hid (OwnN w1 w.heap.size A2 c2 N (runN N (cs.take 0)) ∧ Below w.heap.size w w1) := ⟨by rw [List.take_zero]; exact ho, hb⟩
  clear ho hb
  go_wp2
  go_loopw [4, 6] (fun _ iv wr => ∃ i : Nat, i ≤ m ∧ iv = .int .i64 i ∧ Hid (OwnN wr w.heap.size A2 c2 N (runN N (cs.take i)) ∧ Below w.heap.size w wr ∧ ∀ j, j < i → ¬ ringAt N cs j)) (fun _ iv _ => m - (intOf iv).toNat)
  case atStart => exact ⟨0, Nat.zero_le _, rfl, Lib.hid ⟨HO.out.1, HO.out.2, fun j hj => absurd hj (Nat.not_lt_zero _)⟩⟩
  case round =>
   clear HO
   obtain ⟨i, hi, rfl, HR⟩ := hrel
   have i0 : (0 : Int) ≤ (i : Int) := by omega
   by_cases hlt : i < m
   ·
    have i1 : (i : Int) < (m : Int) := by omega
    have hil : i < ps.length := by have := HP.out.len; omega
    obtain ⟨b, off, hA, hbw, hcc⟩ := HP.out.kons.mem (by omega)
    have hx := List.getElem?_eq_getElem hil
    have hxm : (ps.map (·.1))[i]? = some ps[i].1 := by rw [List.getElem?_map, hx]; rfl
    have hci : cs[i]? = some (vr w0 N ps[i]) := by rw [← HC.out, csOf, List.getElem?_map, hx]; rfl
    have HGI := Lib.hid (HP.out.each _ (List.getElem_mem hil))
    have HB0R : Hid (Below w0.heap.size w0 wr) := HB0.out.trans (HR.out.2.1.mono HB0.out.size)
    have h5 := (hcc i _ hxm).keep (HB0R.out.block b hbw)
    have HBK : Hid (b < wr.heap.size) := Nat.lt_of_lt_of_le hbw HB0R.out.size
    generalize ps[i] = x at *
    obtain ⟨va, la⟩ := x
    replace h5 : At5 wr b (off + i * 5) va := h5
    have H5 := Lib.hid h5
    obtain ⟨k0, k1, k2, k3, k4⟩ := h5
    have v1000 : va.n ≤ 1000 := HGI.out.n
    obtain ⟨cc, hcc2⟩ : ∃ cc, cc = vr w0 N (va, la) := ⟨_, rfl⟩
    rw [← hcc2] at hci
    have HCI := Lib.hid (And.intro hci hcc2.symm)
    obtain ⟨L, hL⟩ := (HGI.out.below HB0R.out).rd
    obtain ⟨k, hk⟩ := (HGI.out.below HB0R.out).k
    have HLK := Lib.hid (And.intro hL hk)
    subst hA
    clear hx hxm hcc hci hcc2 hL hk hbw
    by_cases hs : IsS w0 va la (N : Int)
    ·
     go_wp2_with fail
     refine (rIsK_c va (N : Int) la L k wr (by omega) HGI.out.cap (HGI.out.below HB0R.out).row (HLK.out.1.more (by omega)) (HLK.out.2.more (by omega)) v1000 true ⟨fun _ => (HGI.out.turn HB0R.out _).1 hs, fun _ => rfl⟩).mono ?_
     rintro e w2 ⟨rfl, hb2⟩
     have H2 : Hid (Below wr.heap.size wr w2) := hb2
     have HS := Lib.hid hs
     clear k0 k1 k2 k3 k4 hb2 hs
     obtain ⟨k0, k1, k2, k3, k4⟩ := H5.out.keep (H2.out.block b HBK.out)
     have H02 : Hid (Below w0.heap.size w0 w2) := HB0R.out.trans (H2.out.mono HB0R.out.size)
     go_wp2_with fail
     refine (rjoin_c A2 c2 N w.heap.size (runN N (cs.take i)) cc va w2 (HR.out.1.below H2.out) h64 (by rw [← HCI.out.2, vr_yes HS.out, List.length_map]; exact HGI.out.row.len) (by rw [← HCI.out.2]; exact vr_bnd w0 N _) v1000 (fun h0 => by
      have := HS.out.tmsAt (A := A2) HGI.out H02.out (fun ad ha => Nat.le_trans HB0.out.size (HR.out.1.lt' ad ha).1) h0
      rw [HCI.out.2] at this; exact this)).mono ?_
     rintro e w3 ⟨⟨r, rfl, hr⟩, h1, h2, h3⟩
     have HT : Hid ((r = true ↔ ¬ ringAt N cs i) ∧ (r = true → OwnN w3 w.heap.size A2 c2 N (runN N (cs.take (i + 1)))) ∧ Below w.heap.size w w3) := by
      refine ⟨?_, fun hrt => ?_, ?_⟩
      · unfold ringAt; rw [getD_get HCI.out.1, hr]; exact ⟨fun h g => g h, fun h => Decidable.byContradiction fun g => h g⟩
      ·
       rw [runN_succ HCI.out.1]
       obtain ⟨K, hK, hRt, _⟩ := runN_rts (N := N) (cs := cs.take i) fun c hc => HBN.out c (List.mem_of_mem_take hc)
       rw [← star_step hRt hK (HBN.out cc (List.mem_of_getElem? HCI.out.1))]
       exact h1 (hr.1 hrt)
      · exact far_joined (HR.out.2.1.trans (H2.out.mono HR.out.2.1.size)) (HR.out.1.below H2.out) h3
     have HNR := Lib.hid HR.out.2.2
     clear k0 k1 k2 k3 k4 hr h1 h2 h3 HR H2 H02 HB0R HGI H5
     cases r with
     |
      true =>
      go_wp2
      go_roundw
      case rel =>
       refine ⟨i + 1, by omega, by go_num, Lib.hid ⟨HT.out.2.1 (by trivial), HT.out.2.2, fun j hj => ?_⟩⟩
       by_cases e : j = i
       · rw [e]; exact HT.out.1.1 (by trivial)
       · exact HNR.out j (by omega)
      case measure => simp [intOf]; omega
     |
      false =>
      have HRG : Hid (ringAt N cs i) := Classical.byContradiction fun g => by have := HT.out.1.2 g; cases this
      go_wp2
      go_ret
      exact ⟨(i : Int), rfl, .inr ⟨i, rfl, by have := HL.out; omega, HRG.out, HNR.out⟩, HT.out.2.2⟩
    ·
     go_wp2_with fail
     refine (rIsK_c va (N : Int) la L k wr (by omega) HGI.out.cap (HGI.out.below HB0R.out).row (HLK.out.1.more (by omega)) (HLK.out.2.more (by omega)) v1000 false ⟨fun h => (by cases h), fun h => absurd ((HGI.out.turn HB0R.out _).2 h) hs⟩).mono ?_
     rintro e w2 ⟨rfl, hb2⟩
     have hcc0 : cc = [] := HCI.out.2.symm.trans (vr_no hs)
     have HT : Hid (OwnN w2 w.heap.size A2 c2 N (runN N (cs.take (i + 1))) ∧ Below w.heap.size w w2 ∧ ¬ ringAt N cs i) := by
      refine ⟨?_, HR.out.2.1.trans (hb2.mono HR.out.2.1.size), ?_⟩
      · rw [runN_succ HCI.out.1, hcc0]; exact HR.out.1.below hb2
      · unfold ringAt; rw [getD_get HCI.out.1, hcc0]; exact fun h => h rfl
     have HNR := Lib.hid HR.out.2.2
     clear k0 k1 k2 k3 k4 hb2 HR HB0R HGI hs hcc0 H5
     go_wp2
     go_roundw
     case rel =>
      refine ⟨i + 1, by omega, by go_num, Lib.hid ⟨HT.out.1, HT.out.2.1, fun j hj => ?_⟩⟩
      by_cases e : j = i
      · rw [e]; exact HT.out.2.2
      · exact HNR.out j (by omega)
     case measure => simp [intOf]; omega
   ·
    have e : i = cs.length := by have := HL.out; omega
    have HF : Hid (IsFst N cs (-1)) := .inl ⟨rfl, by rw [← e]; exact HR.out.2.2⟩
    have HB := Lib.hid HR.out.2.1
    have i1 : ¬ (i : Int) < (m : Int) := by omega
    clear e HR
    go_wp2
    go_ret
    exact ⟨-1, rfl, HF.out, HB.out⟩
end Go.Proofs.Ytjbhhccklfddaaa

namespace Go.Proofs.Ytjbhhccklfddaaa
set_option maxRecDepth 20000
open Go.RowKit
set_option maxHeartbeats 3200000 in
theorem has_c (va : Cv) (la : List Tv) (v : Int) (w : World) (ha : Tms w 0 va.A va.n la) (hn : va.n ≤ 1000) :
  Calls Try.prog 33 #[.agg #[.int .i64 va.s, .slice va.A va.n va.c, .bool va.K.s, .slice va.K.A va.K.n va.K.c, .slice va.K.B va.K.m va.K.d], .int .i64 v] w fun e w' => BPost (∃ x ∈ la, x.v = v) e ∧ Below w.heap.size w w' := by
 have n0 : (0 : Int) ≤ (va.n : Int) := by omega
 have n9 : (va.n : Int) ≤ 1000 := by omega
 have ka := C5.new w (.int .i64 va.s) (.slice va.A va.n va.c) (.bool va.K.s) (.slice va.K.A va.K.n va.K.c) (.slice va.K.B va.K.m va.K.d)
 have hB : Below w.heap.size w (w.alloc (.cells #[.int .i64 va.s, .slice va.A va.n va.c, .bool va.K.s, .slice va.K.A va.K.n va.K.c, .slice va.K.B va.K.m va.K.d] 43)) := (Below.refl _ _).alloc (Nat.le_refl _) _
 have HD := Lib.hid (And.intro (ha.below hB) (And.intro ka hB))
 obtain ⟨a0, a1, a2, a3, a4⟩ := ka.facts
 clear ha ka hB
 go_enter Try.func33, Try.ntmps33
 go_wp2
 clear a0 a1 a2 a3 a4
 generalize w.alloc (.cells #[.int .i64 va.s, .slice va.A va.n va.c, .bool va.K.s, .slice va.K.A va.K.n va.K.c, .slice va.K.B va.K.m va.K.d] 43) = W at *
 obtain ⟨B, hBd⟩ : ∃ B, B = w.heap.size := ⟨_, rfl⟩
 have HBg : Hid (B = w.heap.size) := hBd
 rw [← hBd] at HD
 rw [← hBd]
 clear hBd
 have HR0 : Hid (∀ j x, j < 0 → la[j]? = some x → x.v ≠ v) := fun j x hj => absurd hj (Nat.not_lt_zero _)
 go_loopw [5] (fun iv wr => ∃ i : Nat, i ≤ va.n ∧ iv = .int .i64 i ∧ Hid (∀ j x, j < i → la[j]? = some x → x.v ≠ v) ∧ W = wr) (fun iv _ => va.n - (intOf iv).toNat)
 case atStart => exact ⟨0, Nat.zero_le _, rfl, HR0, rfl⟩
 case round =>
  clear HR0
  obtain ⟨i, hi, rfl, HR, rfl⟩ := hrel
  have i0 : (0 : Int) ≤ (i : Int) := by omega
  obtain ⟨_, a1, _, _, _⟩ := HD.out.2.1.facts
  by_cases hlt : i < va.n
  ·
   have i1 : (i : Int) < (va.n : Int) := by omega
   obtain ⟨g, off, hA, _, hg, hc⟩ := HD.out.1.mem (by omega)
   have hil : i < la.length := by rw [HD.out.1.len]; exact hlt
   have hx := List.getElem?_eq_getElem hil
   obtain ⟨y0, _, _, _⟩ := hc i _ hx
   obtain ⟨x, hxe⟩ : ∃ x, x = la[i] := ⟨_, rfl⟩
   rw [← hxe] at y0 hx
   have HX := Lib.hid hx
   rw [hA] at a1
   clear hxe hc hx
   by_cases hxv : x.v = v
   ·
    have HY : Hid (∃ x ∈ la, x.v = v) := ⟨x, List.mem_of_getElem? HX.out, hxv⟩
    go_wp2
    go_ret
    exact ⟨BPost.yes HY.out rfl, by rw [← HBg.out]; exact HD.out.2.2⟩
   ·
    have HS : Hid (∀ j x, j < i + 1 → la[j]? = some x → x.v ≠ v) := fun j y hj hy => by
     by_cases e : j = i
     · subst e; rw [HX.out] at hy; injection hy with hy; rw [← hy]; exact hxv
     · exact HR.out j y (by omega) hy
    go_wp2
    go_roundw
    case rel => exact ⟨i + 1, by omega, by go_num, HS, by trivial⟩
    case measure => simp [intOf]; omega
  ·
   have i1 : ¬ (i : Int) < (va.n : Int) := by omega
   have HN : Hid (¬ ∃ x ∈ la, x.v = v) := fun ⟨x, hx, e⟩ => by
    obtain ⟨j, hj, e2⟩ := List.getElem_of_mem hx
    exact HR.out j x (by have := HD.out.1.len; omega) (by rw [List.getElem?_eq_getElem hj, e2]) e
   go_wp2
   go_ret
   exact ⟨BPost.no HN.out rfl, by rw [← HBg.out]; exact HD.out.2.2⟩
end Go.Proofs.Ytjbhhccklfddaaa
