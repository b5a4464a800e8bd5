/-
  How strong each variable is, by the program.
  The choice in which all tell that can, by the program.
-/
import Derived.Test.YtjbhhccklfddaaaUDlQ
namespace Go.Proofs.Ytjbhhccklfddaaa
set_option maxRecDepth 20000
open Go.RowKit
end Go.Proofs.Ytjbhhccklfddaaa

namespace Go.Proofs.Ytjbhhccklfddaaa
set_option maxRecDepth 20000
open Go.RowKit
theorem ZRow.but2 {b g : Nat} {w w' : World} {A : Option Addr} {n : Nat} {l : List Int} (h : ZRow w A n l) (hb : But2 b g w w') (hA : ∀ ad, A = some ad → ad.block ≠ b ∧ ad.block ≠ g) : ZRow w' A n l :=
 ⟨h.len, fun hn => by
  obtain ⟨k, off, e, h1, hc⟩ := h.mem hn
  obtain ⟨n1, n2⟩ := hA _ e
  exact ⟨k, off, e, Nat.lt_of_lt_of_le h1 hb.size, fun j hj => (World.cell?_of_block (hb.block k h1 n1 n2)).trans (hc j hj)⟩⟩
theorem OwnZ.lt' {w : World} {lo c n : Nat} {A : Option Addr} {l : List Int} (h : OwnZ w lo A c n l) : ∀ ad, A = some ad → lo ≤ ad.block ∧ ad.block < w.heap.size := by
 intro ad e
 subst e
 exact h.own.lt ad.block rfl
def StPost (w0 : World) (n : Int) (N : Nat) (ps : List (Cv × List Tv)) (m : Nat) (L : List Int) (w : World) (e : Ending) (w' : World) : Prop :=
 Below w.heap.size w w' ∧
 ((∀ o, ¬ May w0 n N ps m L o) → ∃ A2 c2, e = .returned (.tuple #[.slice A2 m c2, .bool false]) ∧ OwnZ w' w.heap.size A2 c2 m L) ∧
 ∀ o, May w0 n N ps m L o → ∃ g c l o', e = .returned (.tuple #[.slice (some ⟨g, 0, none⟩) N c, .bool true]) ∧ OwnZ w' w.heap.size (some ⟨g, 0, none⟩) c N (outsL N o') ∧ l.Perm (List.range N) ∧ l.Pairwise (SR (ssOf ps)) ∧ Stl N (vsOf w0 n.toNat ps) (ssOf ps) l o o'
structure StI (w0 : World) (n : Int) (N : Nat) (ps : List (Cv × List Tv)) (l : List Nat) (o : Nat → Option Nat) (gk : Nat) (o1 : Nat → Option Nat) : Prop where
 cho : Cho N (vsOf w0 n.toNat ps) o1
 go : ∀ o', Stl N (vsOf w0 n.toNat ps) (ssOf ps) l o1 o' → Stl N (vsOf w0 n.toNat ps) (ssOf ps) l o o'
 mu : 16 * N < gk + mu N (ssOf ps) o1
set_option maxHeartbeats 12800000 in
theorem Settle_c (w0 : World) (n : Int) (N : Nat) (A : Option Addr) (cA : Nat) (ps : List (Cv × List Tv)) (OA : Option Addr) (m oc : Nat) (L : List Int) (w : World) (hg : Gns w0 A N ps) (hN : N ≤ 12) (hm : m ≤ 1000) (hO : ZRow w0 OA m L) (hb0 : Below w0.heap.size w0 w) :
  Calls Try.prog 12 #[.slice A N cA, .slice OA m oc, .int .i64 n] w (StPost w0 n N ps m L w) := by
 have HD := Lib.hid (And.intro hg (And.intro hO hb0))
 have N0 : (0 : Int) ≤ (N : Int) := by omega
 clear hg hO hb0
 go_enter Try.func12, Try.ntmps12
 go_wp2_with fail
 refine (choiceOf_c w0 n N A cA ps OA m oc L w HD.out.1 hN hm HD.out.2.1 HD.out.2.2).mono ?_
 rintro e w1 ⟨ok, xs, rfl, hxs, hx1, hb, hno, hyes⟩
 have H1 : Hid (Below w.heap.size w w1 ∧ xs.size = 66 ∧ xs.all (·.oneCell') = true) := ⟨hb, hxs, hx1⟩
 have HLB : Hid (Below w.heap.size w ((w1.alloc (.cells chZ 49)).setRow w1.heap.size xs)) := hb.trans ((((Below.refl _ _).alloc (Nat.le_refl _) _).trans (setRow_below (Nat.le_refl _) _)).mono hb.size)
 cases ok with
 |
  false =>
  have HN := Lib.hid (hno rfl)
  clear hxs hx1 hb hno hyes
  go_wp2_with (first
   | (refine wpl_allocC rfl rfl ?_)
   | (refine wpList_store_row rfl 49 _ _ rfl w1.heap.size xs rfl rfl 49 chZ (heap_alloc_new w1 _) (by rw [H1.out.2.1]; exact Try.size49) (by rw [chC_size, H1.out.2.1]) H1.out.2.2 ?_))
  generalize (w1.alloc (.cells chZ 49)).setRow w1.heap.size xs = W at *
  refine (Clone_c OA m oc L W (HD.out.2.1.below (HD.out.2.2.trans (HLB.out.mono HD.out.2.2.size))) hm).mono ?_
  rintro e w2 ⟨A2, c2, rfl, hz, hb2⟩
  have HF : Hid (OwnZ w2 w.heap.size A2 c2 m L ∧ Below w.heap.size w w2) := ⟨hz.lower HLB.out.size, HLB.out.trans (hb2.mono HLB.out.size)⟩
  clear hz hb2
  go_wp2
  refine bodyPost_ret (results_tmp2 rfl _ _ _) rfl ?_
  exact ⟨HF.out.2, fun _ => ⟨A2, c2, rfl, HF.out.1⟩, fun o k => absurd k (HN.out o)⟩
 |
  true =>
  obtain ⟨o, g, c, hmay, hxe, hz⟩ := hyes rfl
  have HM := Lib.hid hmay
  have HC := Lib.hid (laid_ch (old := chZ) hxe hz hb rfl)
  have HSY := Lib.hid (And.intro (hmay.sys HD.out.1) (hmay.bridge HD.out.1))
  clear hxs hx1 hb hno hyes hmay hxe hz
  go_wp2_with (first
   | (refine wpl_allocC rfl rfl ?_)
   | (refine wpList_store_row rfl 49 _ _ rfl w1.heap.size xs rfl rfl 49 chZ (heap_alloc_new w1 _) (by rw [H1.out.2.1]; exact Try.size49) (by rw [chC_size, H1.out.2.1]) H1.out.2.2 ?_))
  generalize (w1.alloc (.cells chZ 49)).setRow w1.heap.size xs = W at *
  obtain ⟨b, hbd⟩ : ∃ b, b = w1.heap.size := ⟨_, rfl⟩
  rw [← hbd] at HC ⊢
  clear hbd H1 HLB
  refine (byStrength_c HSY.out.1 (by omega) W (HD.out.2.2.trans (HC.out.2.mono HD.out.2.2.size))).mono ?_
  rintro e w2 ⟨gO, cO, l, rfl, hp, hpw, ho, hb2⟩
  have HL : Hid (l.Perm (List.range N) ∧ l.Pairwise (SR (ssOf ps)) ∧ ∀ i ∈ l, i < N) := ⟨hp, hpw, fun i hi => List.mem_range.1 (hp.mem_iff.1 hi)⟩
  have HK : Hid (gO ≠ b ∧ gO ≠ g ∧ w.heap.size ≤ b ∧ w.heap.size ≤ g) := by
   have h1 := ho.lt
   have h2 := HC.out.1.lt
   have h3 := HC.out.1.lo
   show _ ∧ _ ∧ _ ∧ _
   omega
  have HI : Hid (StI w0 n N ps l o (16 * N + 1) o) := ⟨HM.out.cho, fun _ h => h, by omega⟩
  have HW : Hid (ChM w2 w.heap.size b (.slice A N cA) g c N o ∧ IRow w2 (some ⟨gO, 0, none⟩) N l ∧ Below w.heap.size w w2) := ⟨HC.out.1.below hb2, ho.row, HC.out.2.trans (hb2.mono HC.out.2.size)⟩
  clear hp hpw ho hb2 HC
  go_wp2
  go_loopg [11] (16 * N + 1) (fun gk _ wr => ∃ o1 : Nat → Option Nat, Hid (StI w0 n N ps l o gk o1) ∧ Hid (ChM wr w.heap.size b (.slice A N cA) g c N o1 ∧ IRow wr (some ⟨gO, 0, none⟩) N l ∧ Below w.heap.size w wr))
  case atStart => exact ⟨o, HI, HW⟩
  case round =>
   clear HI HW
   obtain ⟨o1, HI, HW⟩ := hrel
   cases gk with
   |
    zero =>
    have h1 := HI.out.mu
    have h2 := mu_le (N := N) (s := ssOf ps) (o := o1)
    omega
   | succ gk =>
   have c1 := HW.out.1.blk.cellO
   go_wp2_with fail
   clear c1
   refine (Clone_c (some ⟨g, 0, none⟩) N c (outsL N o1) wr HW.out.1.row.row (by omega)).mono ?_
   rintro e w3 ⟨A3, c3, rfl, hz3, hb3⟩
   have HZ : Hid (ZRow w3 A3 N (outsL N o1) ∧ ∀ ad, A3 = some ad → ad.block ≠ b ∧ ad.block ≠ g) := by
    refine ⟨hz3.row, fun ad e => ?_⟩
    have h1 := (hz3.lt' ad e).1
    have h2 := HW.out.1.lt
    omega
   have HW3 : Hid (ChM w3 w.heap.size b (.slice A N cA) g c N o1 ∧ IRow w3 (some ⟨gO, 0, none⟩) N l ∧ Below w.heap.size w w3) := ⟨HW.out.1.below hb3, HW.out.2.1.below hb3, HW.out.2.2.trans (hb3.mono HW.out.2.2.size)⟩
   clear hz3 hb3 HW
   go_wp2_with fail
   refine (round_c HSY.out.1 HSY.out.2 HI.out.cho w.heap.size b g c (some ⟨gO, 0, none⟩) N cO l w3 (HD.out.2.2.trans (HW3.out.2.2.mono HD.out.2.2.size)) HD.out.2.2.size HW3.out.1 HW3.out.2.1 (fun ad e => by injection e with e; subst e; exact ⟨HK.out.1, HK.out.2.1⟩) HL.out.2.2 (by omega)).mono ?_
   rintro e w4 ⟨rfl, o2, hr, hc2, hm4, hb4⟩
   have HR : Hid (Rnd N (vsOf w0 n.toNat ps) (ssOf ps) l o1 o2 ∧ Cho N (vsOf w0 n.toNat ps) o2) := ⟨hr, hc2⟩
   have HW4 : Hid (ChM w4 w.heap.size b (.slice A N cA) g c N o2 ∧ IRow w4 (some ⟨gO, 0, none⟩) N l ∧ Below w.heap.size w w4 ∧ ZRow w4 A3 N (outsL N o1)) := by
    obtain ⟨q1, q2, q3⟩ := HW3.out
    have hk := HK.out
    refine ⟨hm4, q2.but2 hb4 (fun ad e => by injection e with e; subst e; exact ⟨hk.1, hk.2.1⟩), q3.trans (hb4.below hk.2.2.1 hk.2.2.2 q3.size), HZ.out.1.but2 hb4 HZ.out.2⟩
   clear hr hc2 hm4 hb4 HW3 HZ
   have c1 := HW4.out.1.blk.cellO
   go_wp2_with fail
   clear c1
   refine (Equal_c (some ⟨g, 0, none⟩) A3 N c c3 (outsL N o2) (outsL N o1) w4 HW4.out.1.row.row HW4.out.2.2.2 (by omega)).mono ?_
   rintro e w5 ⟨⟨r, rfl, hr⟩, hb5⟩
   have HE := Lib.hid hr
   have HW5 : Hid (ChM w5 w.heap.size b (.slice A N cA) g c N o2 ∧ IRow w5 (some ⟨gO, 0, none⟩) N l ∧ Below w.heap.size w w5) := ⟨HW4.out.1.below hb5, HW4.out.2.1.below hb5, HW4.out.2.2.1.trans (hb5.mono HW4.out.2.2.1.size)⟩
   clear hr hb5 HW4
   cases r with
   |
    true =>
    have HF : Hid (Stl N (vsOf w0 n.toNat ps) (ssOf ps) l o o2) := by
     have e : o2 = o1 := outsL_inj HR.out.2.out HI.out.cho.out (HE.out.1 rfl)
     have h1 := HR.out.1
     rw [e] at h1 ⊢
     exact HI.out.go _ (.done _ h1)
    have c1 := HW5.out.1.blk.cellO
    go_wp2
    refine bodyPost_ret (results_tmp2 rfl _ _ _) rfl ?_
    refine ⟨HW5.out.2.2, fun k => absurd HM.out (k o), fun p hp => ⟨g, c, l, o2, rfl, HW5.out.1.row, HL.out.1, HL.out.2.1, ?_⟩⟩
    rw [hp.uniq HM.out]; exact HF.out
   |
    false =>
    have HI2 : Hid (StI w0 n N ps l o gk o2) := by
     have ne : o2 ≠ o1 := fun e => by have := HE.out.2 (by rw [e]); cases this
     refine ⟨HR.out.2, fun o' h => HI.out.go _ (.more _ _ _ HR.out.1 ne h), ?_⟩
     obtain ⟨_, _, h3⟩ := HR.out.1.better HSY.out.2 HSY.out.1.s4 HL.out.2.2 HI.out.cho
     rcases h3 with ⟨h3, _⟩ | h3
     · exact absurd h3 ne
     · have := HI.out.mu; omega
    clear HI HR HE
    go_wp2
    go_roundg gk
    case measure => omega
    case rel => exact ⟨o2, HI2, HW5⟩
end Go.Proofs.Ytjbhhccklfddaaa
