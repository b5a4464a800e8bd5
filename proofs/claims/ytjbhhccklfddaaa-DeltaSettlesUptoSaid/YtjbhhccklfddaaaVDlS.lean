/-
  How strong each variable is, by the program.
  The choice in which all tell that can, by the program.
-/
import Derived.Test.YtjbhhccklfddaaaVDlQ
namespace Go.Proofs.Ytjbhhccklfddaaa
set_option maxRecDepth 20000
open Go.RowKit
def WkPost (w0 : World) (n : Int) (N : Nat) (ps : List (Cv × List Tv)) (m : Nat) (L : List Int) (w : World) (e : Ending) (w' : World) : Prop :=
 Below w.heap.size w w' ∧
 ((∀ o, ¬ May w0 n N ps m L o) → e = .returned (.slice none 0 0)) ∧
 ∀ o, May w0 n N ps m L o → ∃ A2 c2, e = .returned (.slice A2 n.toNat c2) ∧ OwnN w' w.heap.size A2 c2 n.toNat ((List.range n.toNat).map (wk N (vsOf w0 n.toNat ps) (ssOf ps) o))
def halfW (f : Nat → Nat) (N k : Nat) : List Nat := (List.range k).map f ++ List.replicate (N - k) 0
theorem halfW_step {f : Nat → Nat} {N k : Nat} (h : k < N) : (halfW f N k).set k (f k) = halfW f N (k + 1) := by
 unfold halfW
 rw [List.set_append_right _ _ (by simp), List.length_map, List.length_range, Nat.sub_self, List.range_succ, List.map_append, List.append_assoc, show N - k = (N - (k + 1)) + 1 by omega, List.replicate_succ]
 rfl
theorem halfW_all (f : Nat → Nat) (N : Nat) : halfW f N N = (List.range N).map f := by unfold halfW; rw [Nat.sub_self]; simp
set_option maxHeartbeats 12800000 in
theorem Walk_c (w0 : World) (n : Int) (N : Nat) (A : Option Addr) (cA : Nat) (ps : List (Cv × List Tv)) (OA : Option Addr) (m oc : Nat) (L : List Int) (w : World) (hg : Gns w0 A N ps) (hN : N ≤ 12) (hm : m ≤ 1000) (hO : ZRow w0 OA m L) (hb0 : Below w0.heap.size w0 w) :
  Calls Try.prog 17 #[.slice A N cA, .slice OA m oc, .int .i64 n] w (WkPost w0 n N ps m L w) := by
 obtain ⟨i0, hi, hz0, hz1, hz2⟩ := info_parts Try.info3
 have HD := Lib.hid (And.intro hg (And.intro hO hb0))
 have N0 : (0 : Int) ≤ (N : Int) := by omega
 clear hg hO hb0
 go_enter Try.func17, Try.ntmps17
 go_wp2_with fail
 refine (choiceOf_c w0 n N A cA ps OA m oc L w HD.out.1 hN hm HD.out.2.1 HD.out.2.2).mono ?_
 rintro e w1 ⟨ok, xs, rfl, hxs, hx1, hb, hno, hyes⟩
 have H1 : Hid (Below w.heap.size w w1 ∧ xs.size = 66 ∧ xs.all (·.oneCell') = true) := ⟨hb, hxs, hx1⟩
 have HLB : Hid (Below w.heap.size w ((w1.alloc (.cells chZ 49)).setRow w1.heap.size xs)) := hb.trans ((((Below.refl _ _).alloc (Nat.le_refl _) _).trans (setRow_below (Nat.le_refl _) _)).mono hb.size)
 cases ok with
 |
  false =>
  have HN := Lib.hid (hno rfl)
  clear hxs hx1 hb hno hyes hz0 hz1 hz2 hi
  go_wp2_with (first
   | (refine wpl_allocC rfl rfl ?_)
   | (refine wpList_store_row rfl 49 _ _ rfl w1.heap.size xs rfl rfl 49 chZ (heap_alloc_new w1 _) (by rw [H1.out.2.1]; exact Try.size49) (by rw [chC_size, H1.out.2.1]) H1.out.2.2 ?_))
  go_ret
  exact ⟨HLB.out, fun _ => rfl, fun o k => absurd k (HN.out o)⟩
 |
  true =>
  obtain ⟨o, g, c, hmay, hxe, hz⟩ := hyes rfl
  have HM := Lib.hid hmay
  have HGb : Hid (g < w1.heap.size) := hz.lt.2
  have HC := Lib.hid (laid_ch (old := chZ) hxe hz hb rfl)
  have HSY := Lib.hid (And.intro (hmay.sys HD.out.1) (hmay.bridge HD.out.1))
  obtain ⟨nn, rfl⟩ : ∃ nn : Nat, n = (nn : Int) := ⟨n.toNat, by have := hmay.n1; omega⟩
  have nn64 : nn ≤ 64 := by have := hmay.n64; omega
  have nn0 : (0 : Int) ≤ (nn : Int) := by omega
  have nn1 : (nn : Int) ≤ 64 := by omega
  clear hxs hx1 hb hno hyes hmay hxe hz
  go_wp2_with (first
   | (refine wpl_allocC rfl rfl ?_)
   | (refine wpList_store_row rfl 49 _ _ rfl w1.heap.size xs rfl rfl 49 chZ (heap_alloc_new w1 _) (by rw [H1.out.2.1]; exact Try.size49) (by rw [chC_size, H1.out.2.1]) H1.out.2.2 ?_)
   | (at_make; refine wpList_make_full _ rfl _ _ _ rfl w.heap.size 3 i0 (.int .i64 0) 1 Try.underlying23 hi hz0 hz1 .i64 .i64 _ _ nn rfl rfl (by first | rfl | omega) (by first | rfl | omega) (by first | omega | (rw [hz2]; omega)) (by unfold maxLen; omega) HLB.out.size ?_))
  generalize (w1.alloc (.cells chZ 49)).setRow w1.heap.size xs = W at *
  intro w2 ho hgr
  obtain ⟨b, hbd⟩ : ∃ b, b = w1.heap.size := ⟨_, rfl⟩
  rw [← hbd] at HC HGb ⊢
  have HO : Hid (OwnN w2 w.heap.size (some ⟨b + 1, 0, none⟩) nn nn (halfW (wk N (vsOf w0 nn ps) (ssOf ps) o) nn 0) ∧ Below w.heap.size w w2 ∧ ChM w2 w.heap.size b (.slice A N cA) g c N o) := by
   rw [← hbd] at ho
   have hWb := below_of_grown hgr
   refine ⟨?_, HC.out.2.trans (hWb.mono HC.out.2.size), HC.out.1.below hWb⟩
   have := OwnN.made ho
   unfold halfW
   simpa using this
  have etn : ((nn : Int)).toNat = nn := by omega
  rw [etn] at HSY
  have HCH : Hid (Cho N (vsOf w0 nn ps) o) := by have := HM.out.cho; rw [etn] at this; exact this
  clear ho hgr hbd HC H1 HLB hz0 hz1 hz2 hi
  go_wp2
  go_loopw [10, 24] (fun _ kv wr => ∃ k : Nat, k ≤ nn ∧ kv = .int .i64 k ∧ Hid (OwnN wr w.heap.size (some ⟨b + 1, 0, none⟩) nn nn (halfW (wk N (vsOf w0 nn ps) (ssOf ps) o) nn k) ∧ Below w.heap.size w wr ∧ ChM wr w.heap.size b (.slice A N cA) g c N o)) (fun _ kv _ => nn - (intOf kv).toNat)
  case atStart => exact ⟨0, Nat.zero_le _, rfl, HO⟩
  case round =>
   clear HO
   obtain ⟨k, hk, rfl, HO⟩ := hrel
   have k0 : (0 : Int) ≤ (k : Int) := by omega
   by_cases hlt : k < nn
   ·
    have k1 : (k : Int) < (nn : Int) := by omega
    go_wp2_with fail
    refine (strength_c HSY.out.1 HSY.out.2 HCH.out N [] k b _ wr (Pth.start ..) (by simp) (HD.out.2.2.trans (HO.out.2.1.mono HD.out.2.2.size)) HO.out.2.2.blk hlt).mono ?_
    rintro e w3 ⟨rfl, hb3⟩
    have HO3 : Hid (OwnN w3 w.heap.size (some ⟨b + 1, 0, none⟩) nn nn (halfW (wk N (vsOf w0 nn ps) (ssOf ps) o) nn k) ∧ Below w.heap.size w w3 ∧ ChM w3 w.heap.size b (.slice A N cA) g c N o) := ⟨HO.out.1.below hb3, HO.out.2.1.trans (hb3.mono HO.out.2.1.size), HO.out.2.2.below hb3⟩
    clear hb3 HO
    have e1 : wkF N (vsOf w0 nn ps) (ssOf ps) o N k = wk N (vsOf w0 nn ps) (ssOf ps) o k := rfl
    rw [e1]
    clear e1
    obtain ⟨q, hq⟩ : ∃ q, q = wk N (vsOf w0 nn ps) (ssOf ps) o k := ⟨_, rfl⟩
    have c0 := HO3.out.1.cell hlt
    have t0 := HO3.out.1.thaw k
    have HO4 : Hid (OwnN (w3.setCell ⟨b + 1, k, none⟩ (.int .i64 (q : Int))) w.heap.size (some ⟨b + 1, 0, none⟩) nn nn (halfW (wk N (vsOf w0 nn ps) (ssOf ps) o) nn (k + 1)) ∧ Below w.heap.size w (w3.setCell ⟨b + 1, k, none⟩ (.int .i64 (q : Int))) ∧ ChM (w3.setCell ⟨b + 1, k, none⟩ (.int .i64 (q : Int))) w.heap.size b (.slice A N cA) g c N o) := by
     obtain ⟨q1, q2, q3⟩ := HO3.out
     have hl := q3.lo
     have hl2 := q3.lt
     refine ⟨?_, set_at (by omega) _ _ q2, q3.put (by omega) ?_ _ _⟩
     ·
      rw [hq]
      have := q1.set k (wk N (vsOf w0 nn ps) (ssOf ps) o k)
      rw [halfW_step hlt] at this
      exact this
     · have := HGb.out; omega
    rw [← hq]
    clear hq HO3
    go_wp2
    go_roundw
    case rel => exact ⟨k + 1, by omega, by go_num, HO4⟩
    case measure => simp [intOf]; omega
   ·
    have k1 : ¬ (k : Int) < (nn : Int) := by omega
    have e : k = nn := by omega
    have HF : Hid (OwnN wr w.heap.size (some ⟨b + 1, 0, none⟩) nn nn ((List.range nn).map (wk N (vsOf w0 nn ps) (ssOf ps) o)) ∧ Below w.heap.size w wr) := by
     have h1 := HO.out.1
     rw [e, halfW_all] at h1
     exact ⟨h1, HO.out.2.1⟩
    clear HO e
    go_wp2
    go_ret
    refine ⟨HF.out.2, fun q => absurd HM.out (q o), fun p hp => ⟨_, nn, rfl, ?_⟩⟩
    rw [hp.uniq HM.out]
    exact HF.out.1
end Go.Proofs.Ytjbhhccklfddaaa

namespace Go.Proofs.Ytjbhhccklfddaaa
set_option maxRecDepth 20000
open Go.RowKit
theorem ZRow.but2 {b g : Nat} {w w' : World} {A : Option Addr} {n : Nat} {l : List Int} (h : ZRow w A n l) (hb : But2 b g w w') (hA : ∀ ad, A = some ad → ad.block ≠ b ∧ ad.block ≠ g) : ZRow w' A n l :=
 ⟨h.len, fun hn => by
  obtain ⟨k, off, e, h1, hc⟩ := h.mem hn
  obtain ⟨n1, n2⟩ := hA _ e
  exact ⟨k, off, e, Nat.lt_of_lt_of_le h1 hb.size, fun j hj => (World.cell?_of_block (hb.block k h1 n1 n2)).trans (hc j hj)⟩⟩
theorem OwnZ.lt' {w : World} {lo c n : Nat} {A : Option Addr} {l : List Int} (h : OwnZ w lo A c n l) : ∀ ad, A = some ad → lo ≤ ad.block ∧ ad.block < w.heap.size := by
 intro ad e
 subst e
 exact h.own.lt ad.block rfl
def StPost (w0 : World) (n : Int) (N : Nat) (ps : List (Cv × List Tv)) (m : Nat) (L : List Int) (w : World) (e : Ending) (w' : World) : Prop :=
 Below w.heap.size w w' ∧
 ((∀ o, ¬ May w0 n N ps m L o) → ∃ A2 c2, e = .returned (.tuple #[.slice A2 m c2, .bool false]) ∧ OwnZ w' w.heap.size A2 c2 m L) ∧
 ∀ o, May w0 n N ps m L o → ∃ g c l o', e = .returned (.tuple #[.slice (some ⟨g, 0, none⟩) N c, .bool true]) ∧ OwnZ w' w.heap.size (some ⟨g, 0, none⟩) c N (outsL N o') ∧ l.Perm (List.range N) ∧ l.Pairwise (SR (ssOf ps)) ∧ Stl N (vsOf w0 n.toNat ps) (ssOf ps) l o o'
structure StI (w0 : World) (n : Int) (N : Nat) (ps : List (Cv × List Tv)) (l : List Nat) (o : Nat → Option Nat) (gk : Nat) (o1 : Nat → Option Nat) : Prop where
 cho : Cho N (vsOf w0 n.toNat ps) o1
 go : ∀ o', Stl N (vsOf w0 n.toNat ps) (ssOf ps) l o1 o' → Stl N (vsOf w0 n.toNat ps) (ssOf ps) l o o'
 mu : 16 * N < gk + mu N (ssOf ps) o1
set_option maxHeartbeats 12800000 in
theorem Settle_c (w0 : World) (n : Int) (N : Nat) (A : Option Addr) (cA : Nat) (ps : List (Cv × List Tv)) (OA : Option Addr) (m oc : Nat) (L : List Int) (w : World) (hg : Gns w0 A N ps) (hN : N ≤ 12) (hm : m ≤ 1000) (hO : ZRow w0 OA m L) (hb0 : Below w0.heap.size w0 w) :
  Calls Try.prog 12 #[.slice A N cA, .slice OA m oc, .int .i64 n] w (StPost w0 n N ps m L w) := by
 have HD := Lib.hid (And.intro hg (And.intro hO hb0))
 have N0 : (0 : Int) ≤ (N : Int) := by omega
 clear hg hO hb0
 go_enter Try.func12, Try.ntmps12
 go_wp2_with fail
 refine (choiceOf_c w0 n N A cA ps OA m oc L w HD.out.1 hN hm HD.out.2.1 HD.out.2.2).mono ?_
 rintro e w1 ⟨ok, xs, rfl, hxs, hx1, hb, hno, hyes⟩
 have H1 : Hid (Below w.heap.size w w1 ∧ xs.size = 66 ∧ xs.all (·.oneCell') = true) := ⟨hb, hxs, hx1⟩
 have HLB : Hid (Below w.heap.size w ((w1.alloc (.cells chZ 49)).setRow w1.heap.size xs)) := hb.trans ((((Below.refl _ _).alloc (Nat.le_refl _) _).trans (setRow_below (Nat.le_refl _) _)).mono hb.size)
 cases ok with
 |
  false =>
  have HN := Lib.hid (hno rfl)
  clear hxs hx1 hb hno hyes
  go_wp2_with (first
   | (refine wpl_allocC rfl rfl ?_)
   | (refine wpList_store_row rfl 49 _ _ rfl w1.heap.size xs rfl rfl 49 chZ (heap_alloc_new w1 _) (by rw [H1.out.2.1]; exact Try.size49) (by rw [chC_size, H1.out.2.1]) H1.out.2.2 ?_))
  generalize (w1.alloc (.cells chZ 49)).setRow w1.heap.size xs = W at *
  refine (Clone_c OA m oc L W (HD.out.2.1.below (HD.out.2.2.trans (HLB.out.mono HD.out.2.2.size))) hm).mono ?_
  rintro e w2 ⟨A2, c2, rfl, hz, hb2⟩
  have HF : Hid (OwnZ w2 w.heap.size A2 c2 m L ∧ Below w.heap.size w w2) := ⟨hz.lower HLB.out.size, HLB.out.trans (hb2.mono HLB.out.size)⟩
  clear hz hb2
  go_wp2
  refine bodyPost_ret (results_tmp2 rfl _ _ _) rfl ?_
  exact ⟨HF.out.2, fun _ => ⟨A2, c2, rfl, HF.out.1⟩, fun o k => absurd k (HN.out o)⟩
 |
  true =>
  obtain ⟨o, g, c, hmay, hxe, hz⟩ := hyes rfl
  have HM := Lib.hid hmay
  have HC := Lib.hid (laid_ch (old := chZ) hxe hz hb rfl)
  have HSY := Lib.hid (And.intro (hmay.sys HD.out.1) (hmay.bridge HD.out.1))
  clear hxs hx1 hb hno hyes hmay hxe hz
  go_wp2_with (first
   | (refine wpl_allocC rfl rfl ?_)
   | (refine wpList_store_row rfl 49 _ _ rfl w1.heap.size xs rfl rfl 49 chZ (heap_alloc_new w1 _) (by rw [H1.out.2.1]; exact Try.size49) (by rw [chC_size, H1.out.2.1]) H1.out.2.2 ?_))
  generalize (w1.alloc (.cells chZ 49)).setRow w1.heap.size xs = W at *
  obtain ⟨b, hbd⟩ : ∃ b, b = w1.heap.size := ⟨_, rfl⟩
  rw [← hbd] at HC ⊢
  clear hbd H1 HLB
  refine (byStrength_c HSY.out.1 (by omega) W (HD.out.2.2.trans (HC.out.2.mono HD.out.2.2.size))).mono ?_
  rintro e w2 ⟨gO, cO, l, rfl, hp, hpw, ho, hb2⟩
  have HL : Hid (l.Perm (List.range N) ∧ l.Pairwise (SR (ssOf ps)) ∧ ∀ i ∈ l, i < N) := ⟨hp, hpw, fun i hi => List.mem_range.1 (hp.mem_iff.1 hi)⟩
  have HK : Hid (gO ≠ b ∧ gO ≠ g ∧ w.heap.size ≤ b ∧ w.heap.size ≤ g) := by
   have h1 := ho.lt
   have h2 := HC.out.1.lt
   have h3 := HC.out.1.lo
   show _ ∧ _ ∧ _ ∧ _
   omega
  have HI : Hid (StI w0 n N ps l o (16 * N + 1) o) := ⟨HM.out.cho, fun _ h => h, by omega⟩
  have HW : Hid (ChM w2 w.heap.size b (.slice A N cA) g c N o ∧ IRow w2 (some ⟨gO, 0, none⟩) N l ∧ Below w.heap.size w w2) := ⟨HC.out.1.below hb2, ho.row, HC.out.2.trans (hb2.mono HC.out.2.size)⟩
  clear hp hpw ho hb2 HC
  go_wp2
  go_loopg [11] (16 * N + 1) (fun gk _ wr => ∃ o1 : Nat → Option Nat, Hid (StI w0 n N ps l o gk o1) ∧ Hid (ChM wr w.heap.size b (.slice A N cA) g c N o1 ∧ IRow wr (some ⟨gO, 0, none⟩) N l ∧ Below w.heap.size w wr))
  case atStart => exact ⟨o, HI, HW⟩
  case round =>
   clear HI HW
   obtain ⟨o1, HI, HW⟩ := hrel
   cases gk with
   |
    zero =>
    have h1 := HI.out.mu
    have h2 := mu_le (N := N) (s := ssOf ps) (o := o1)
    omega
   | succ gk =>
   have c1 := HW.out.1.blk.cellO
   go_wp2_with fail
   clear c1
   refine (Clone_c (some ⟨g, 0, none⟩) N c (outsL N o1) wr HW.out.1.row.row (by omega)).mono ?_
   rintro e w3 ⟨A3, c3, rfl, hz3, hb3⟩
   have HZ : Hid (ZRow w3 A3 N (outsL N o1) ∧ ∀ ad, A3 = some ad → ad.block ≠ b ∧ ad.block ≠ g) := by
    refine ⟨hz3.row, fun ad e => ?_⟩
    have h1 := (hz3.lt' ad e).1
    have h2 := HW.out.1.lt
    omega
   have HW3 : Hid (ChM w3 w.heap.size b (.slice A N cA) g c N o1 ∧ IRow w3 (some ⟨gO, 0, none⟩) N l ∧ Below w.heap.size w w3) := ⟨HW.out.1.below hb3, HW.out.2.1.below hb3, HW.out.2.2.trans (hb3.mono HW.out.2.2.size)⟩
   clear hz3 hb3 HW
   go_wp2_with fail
   refine (round_c HSY.out.1 HSY.out.2 HI.out.cho w.heap.size b g c (some ⟨gO, 0, none⟩) N cO l w3 (HD.out.2.2.trans (HW3.out.2.2.mono HD.out.2.2.size)) HD.out.2.2.size HW3.out.1 HW3.out.2.1 (fun ad e => by injection e with e; subst e; exact ⟨HK.out.1, HK.out.2.1⟩) HL.out.2.2 (by omega)).mono ?_
   rintro e w4 ⟨rfl, o2, hr, hc2, hm4, hb4⟩
   have HR : Hid (Rnd N (vsOf w0 n.toNat ps) (ssOf ps) l o1 o2 ∧ Cho N (vsOf w0 n.toNat ps) o2) := ⟨hr, hc2⟩
   have HW4 : Hid (ChM w4 w.heap.size b (.slice A N cA) g c N o2 ∧ IRow w4 (some ⟨gO, 0, none⟩) N l ∧ Below w.heap.size w w4 ∧ ZRow w4 A3 N (outsL N o1)) := by
    obtain ⟨q1, q2, q3⟩ := HW3.out
    have hk := HK.out
    refine ⟨hm4, q2.but2 hb4 (fun ad e => by injection e with e; subst e; exact ⟨hk.1, hk.2.1⟩), q3.trans (hb4.below hk.2.2.1 hk.2.2.2 q3.size), HZ.out.1.but2 hb4 HZ.out.2⟩
   clear hr hc2 hm4 hb4 HW3 HZ
   have c1 := HW4.out.1.blk.cellO
   go_wp2_with fail
   clear c1
   refine (Equal_c (some ⟨g, 0, none⟩) A3 N c c3 (outsL N o2) (outsL N o1) w4 HW4.out.1.row.row HW4.out.2.2.2 (by omega)).mono ?_
   rintro e w5 ⟨⟨r, rfl, hr⟩, hb5⟩
   have HE := Lib.hid hr
   have HW5 : Hid (ChM w5 w.heap.size b (.slice A N cA) g c N o2 ∧ IRow w5 (some ⟨gO, 0, none⟩) N l ∧ Below w.heap.size w w5) := ⟨HW4.out.1.below hb5, HW4.out.2.1.below hb5, HW4.out.2.2.1.trans (hb5.mono HW4.out.2.2.1.size)⟩
   clear hr hb5 HW4
   cases r with
   |
    true =>
    have HF : Hid (Stl N (vsOf w0 n.toNat ps) (ssOf ps) l o o2) := by
     have e : o2 = o1 := outsL_inj HR.out.2.out HI.out.cho.out (HE.out.1 rfl)
     have h1 := HR.out.1
     rw [e] at h1 ⊢
     exact HI.out.go _ (.done _ h1)
    have c1 := HW5.out.1.blk.cellO
    go_wp2
    refine bodyPost_ret (results_tmp2 rfl _ _ _) rfl ?_
    refine ⟨HW5.out.2.2, fun k => absurd HM.out (k o), fun p hp => ⟨g, c, l, o2, rfl, HW5.out.1.row, HL.out.1, HL.out.2.1, ?_⟩⟩
    rw [hp.uniq HM.out]; exact HF.out
   |
    false =>
    have HI2 : Hid (StI w0 n N ps l o gk o2) := by
     have ne : o2 ≠ o1 := fun e => by have := HE.out.2 (by rw [e]); cases this
     refine ⟨HR.out.2, fun o' h => HI.out.go _ (.more _ _ _ HR.out.1 ne h), ?_⟩
     obtain ⟨_, _, h3⟩ := HR.out.1.better HSY.out.2 HSY.out.1.s4 HL.out.2.2 HI.out.cho
     rcases h3 with ⟨h3, _⟩ | h3
     · exact absurd h3 ne
     · have := HI.out.mu; omega
    clear HI HR HE
    go_wp2
    go_roundg gk
    case measure => omega
    case rel => exact ⟨o2, HI2, HW5⟩
end Go.Proofs.Ytjbhhccklfddaaa
