/-
  DeltaIdle: a constraint that tells none may be left out.
-/
import Derived.Test.YtjbhhccklfddaaaUNones
import Derived.Test.YtjbhhccklfddaaaUDlS
import Derived.Test.YtjbhhccklfddaaaUDeltaWalks
import Derived.Test.YtjbhhccklfddaaaUSel
import Derived.Test.YtjbhhccklfddaaaUSpd
import Derived.Test.YtjbhhccklfddaaaURgn
namespace Go.Proofs.Ytjbhhccklfddaaa
set_option maxRecDepth 20000
open Go.RowKit
set_option maxHeartbeats 25600000 in
theorem DeltaIdle_any (A : Option Addr) (m c : Nat) (n : Int) (ps : List (Cv × List Tv)) (w : World) (hk : Kons w A m (ps.map (·.1))) (hf : ∀ x ∈ ps, Raw w x.1 x.2) (hm : m ≤ 1048576) :
  Calls Try.prog 9 #[.slice A m c, .int .i64 n] w fun e w' => e = .returned (.bool true) ∧ Below w.heap.size w w' := by
 have m0 : (0 : Int) ≤ (m : Int) := by omega
 have m9 : (m : Int) ≤ 1048576 := by omega
 have HK := Lib.hid (And.intro hk hf)
 clear hk hf
 go_enter Try.func9, Try.ntmps9
 go_wp2_with fail
 refine (heavyH_c A m c ps _ HK.out.1 (fun x hx => (HK.out.2 x hx).fit) hm).mono ?_
 rintro e w1 ⟨r, rfl, hr, hb⟩
 have HR := Lib.hid hr
 have HB1 := Lib.hid hb
 clear hr hb
 cases r with
 |
  true =>
  go_wp2
  go_ret
  exact ⟨rfl, HB1.out⟩
 | false =>
 obtain ⟨_, hg⟩ := gns_of HK.out.1 HK.out.2 (HR.out (by trivial))
 have HV := Lib.hid (hg.below HB1.out)
 clear hg HR HK
 by_cases h12 : (12 : Int) < (m : Int)
 ·
  go_wp2
  go_ret
  exact ⟨rfl, HB1.out⟩
 have mN : m ≤ 12 := by omega
 have HO0 : Hid (OwnZ w1 w1.heap.size none 0 0 (List.replicate 0 (-1)) ∧ Below w1.heap.size w1 w1) := ⟨OwnZ.nil_ _ _, Below.refl _ _⟩
 go_wp2
 go_loopw [5, 6] (fun rv kv wr => ∃ (k : Nat) (A2 : Option Addr) (c2 : Nat), k ≤ m ∧ rv = .slice A2 k c2 ∧ kv = .int .i64 k ∧ Hid (OwnZ wr w1.heap.size A2 c2 k (List.replicate k (-1)) ∧ Below w1.heap.size w1 wr)) (fun _ kv _ => m - (intOf kv).toNat)
 case atStart => exact ⟨0, none, 0, Nat.zero_le _, rfl, rfl, HO0⟩
 case round =>
  clear HO0
  obtain ⟨k, A2, c2, hk, rfl, rfl, HO⟩ := hrel
  have k0 : (0 : Int) ≤ (k : Int) := by omega
  by_cases hlt : k < m
  ·
   have k1 : (k : Int) < (m : Int) := by omega
   have hsz : w1.heap.size ≤ (wr.alloc (.cells #[.int .i64 (-1)] 3)).heap.size := by have := HO.out.2.size; simp; omega
   go_wp2_with (at_builtin; refine wpz_appends rfl _ _ rfl rfl rfl (lo := w1.heap.size) (HO.out.1.below ((Below.refl _ _).alloc (Nat.le_refl _) _)) (none_row (-1)) (by omega) hsz ?_)
   intro A3 c3 w2 hown hgrow
   have HO2 : Hid (OwnZ w2 w1.heap.size A3 c3 (k + 1) (List.replicate (k + 1) (-1)) ∧ Below w1.heap.size w1 w2) := by
    refine ⟨by rw [← repl_succ]; exact hown, below_rowZ (w := wr.alloc (.cells #[.int .i64 (-1)] 3)) (HO.out.2.alloc HO.out.2.size _) (HO.out.1.below ((Below.refl _ _).alloc (Nat.le_refl _) _)) hgrow hsz⟩
   clear hown hgrow hsz HO
   go_wp2
   go_roundw
   case rel => exact ⟨k + 1, A3, c3, by omega, rfl, by go_num, HO2⟩
   case measure => simp [intOf]; omega
  ·
   have k1 : ¬ (k : Int) < (m : Int) := by omega
   have e : k = m := by omega
   subst e
   obtain ⟨W, hWe⟩ : ∃ W, W = wr := ⟨_, rfl⟩
   have HG : Hid (Gns wr A k ps ∧ ZRow wr A2 k (List.replicate k (-1)) ∧ Below w.heap.size w wr) := ⟨HV.out.below HO.out.2, HO.out.1.row, HB1.out.trans (HO.out.2.mono HB1.out.size)⟩
   clear HO hWe
   go_wp2_with fail
   refine (Settle_c wr n k A c ps A2 k c2 _ wr HG.out.1 mN (by omega) HG.out.2.1 (Below.refl _ _)).mono ?_
   rintro e w3 ⟨hb3, hno, hyes⟩
   by_cases hmay : ∃ o, May wr n k ps k (List.replicate k (-1)) o
   ·
    obtain ⟨o, ho⟩ := hmay
    obtain ⟨g, cg, l, o', rfl, hz, hl, hpw, hst⟩ := hyes o ho
    obtain ⟨hm2, _, hs2, _⟩ := ho.settled HG.out.1 hl hst
    have H3 : Hid (OwnZ w3 wr.heap.size (some ⟨g, 0, none⟩) cg k (outsL k o') ∧ Below wr.heap.size wr w3 ∧ l.Perm (List.range k) ∧ l.Pairwise (SR (ssOf ps))) := ⟨hz, hb3, hl, hpw⟩
    have HM2 := Lib.hid (And.intro hm2 hs2)
    have H4 : Hid (Gns w3 A k ps ∧ ZRow w3 (some ⟨g, 0, none⟩) k (outsL k o') ∧ May w3 n k ps k (outsL k o') o' ∧ Below w.heap.size w w3) := ⟨HG.out.1.below H3.out.2.1, H3.out.1.row, hm2.turn HG.out.1 H3.out.2.1, HG.out.2.2.trans (H3.out.2.1.mono HG.out.2.2.size)⟩
    clear hb3 hno hyes hz hl hpw hst hm2 hs2 ho HM2 H3 HG HV HB1
    go_wp2
    have HE0 : Hid (0 = (selO o' 0).length ∧ OwnC w3 w3.heap.size none 0 0 ((selQ ps o' 0).map (·.1)) ∧ OwnZ w3 w3.heap.size none 0 0 ((selO o' 0).map fun (u : Nat) => (u : Int)) ∧ Below w3.heap.size w3 w3) := ⟨rfl, OwnC.nil_ _ _, OwnZ.nil_ _ _, Below.refl _ _⟩
    go_loopw [9, 10, 11] (fun mv pv iv wr => ∃ (i J : Nat) (A9 : Option Addr) (c9 : Nat) (A10 : Option Addr) (c10 : Nat), i ≤ k ∧ iv = .int .i64 i ∧ mv = .slice A9 J c9 ∧ pv = .slice A10 J c10 ∧ Hid (J = (selO o' i).length ∧ OwnC wr w3.heap.size A9 c9 J ((selQ ps o' i).map (·.1)) ∧ OwnZ wr w3.heap.size A10 c10 J ((selO o' i).map fun (u : Nat) => (u : Int)) ∧ Below w3.heap.size w3 wr)) (fun _ _ iv _ => k - (intOf iv).toNat)
    case atStart => exact ⟨0, 0, none, 0, none, 0, Nat.zero_le _, rfl, rfl, rfl, HE0⟩
    case round =>
     clear HE0
     obtain ⟨i, J, A9, c9, A10, c10, hi, rfl, rfl, rfl, HE⟩ := hrel
     have i0 : (0 : Int) ≤ (i : Int) := by omega
     by_cases hlt : i < k
     ·
      have i1 : (i : Int) < (k : Int) := by omega
      have hpl : i < ps.length := by rw [H4.out.1.len]; exact hlt
      obtain ⟨x, hx⟩ : ∃ x, ps[i]? = some x := ⟨_, List.getElem?_eq_getElem hpl⟩
      obtain ⟨bb, off, hA, hbb, hcc⟩ := H4.out.1.kons.mem (by omega)
      subst hA
      have hat := hcc i x.1 (by rw [List.getElem?_map, hx]; rfl)
      obtain ⟨bo, oo, hOA, hob, hoc⟩ := H4.out.2.1.mem (by omega)
      injection hOA with hOA
      injection hOA with e1 e2 _
      subst e1; subst e2
      have c0 := hoc i hlt
      rw [outsL_zt hlt, Nat.zero_add] at c0
      have HCO : Hid (w3.cell? ⟨g, i, none⟩ = some (.int .i64 (oi (o' i)))) := c0
      have HAT0 : Hid (∀ w', Below w3.heap.size w3 w' → (w'.cell? ⟨bb, off + i * 5, none⟩ = some (.int .i64 x.1.s) ∧ w'.cell? ⟨bb, off + i * 5 + 1, none⟩ = some (.slice x.1.A x.1.n x.1.c) ∧ w'.cell? ⟨bb, off + i * 5 + 2, none⟩ = some (.bool x.1.K.s) ∧ w'.cell? ⟨bb, off + i * 5 + 3, none⟩ = some (.slice x.1.K.A x.1.K.n x.1.K.c) ∧ w'.cell? ⟨bb, off + i * 5 + 4, none⟩ = some (.slice x.1.K.B x.1.K.m x.1.K.d)) ∧ w'.cell? ⟨g, i, none⟩ = some (.int .i64 (oi (o' i)))) := fun w' hb' =>
       ⟨⟨(World.cell?_of_block (hb'.block bb hbb)).trans hat.h0, (World.cell?_of_block (hb'.block bb hbb)).trans hat.h1, (World.cell?_of_block (hb'.block bb hbb)).trans hat.h2, (World.cell?_of_block (hb'.block bb hbb)).trans hat.h3, (World.cell?_of_block (hb'.block bb hbb)).trans hat.h4⟩, (World.cell?_of_block (hb'.block g hob)).trans HCO.out⟩
      clear hcc hat hoc c0 hpl
      cases hoi : o' i with
      |
       none =>
       have c0 := (HAT0.out _ HE.out.2.2.2).2
       rw [hoi] at c0
       have c0' : wr.cell? ⟨g, i, none⟩ = some (.int .i64 (-1)) := c0
       have HE2 : Hid (J = (selO o' (i + 1)).length ∧ OwnC wr w3.heap.size A9 c9 J ((selQ ps o' (i + 1)).map (·.1)) ∧ OwnZ wr w3.heap.size A10 c10 J ((selO o' (i + 1)).map fun (u : Nat) => (u : Int)) ∧ Below w3.heap.size w3 wr) := by
        have h1 := HE.out
        rw [selO_none hoi, selQ_none hoi]; exact h1
       clear c0 hoi hx
       go_wp2
       go_roundw
       case rel => exact ⟨i + 1, J, A9, c9, A10, c10, by omega, by go_num, rfl, rfl, HE2⟩
       case measure => simp [intOf]; omega
      |
       some u =>
       have HAT : Hid (∀ w', Below w3.heap.size w3 w' → w'.cell? ⟨bb, off + i * 5, none⟩ = some (.int .i64 x.1.s) ∧ w'.cell? ⟨bb, off + i * 5 + 1, none⟩ = some (.slice x.1.A x.1.n x.1.c) ∧ w'.cell? ⟨bb, off + i * 5 + 2, none⟩ = some (.bool x.1.K.s) ∧ w'.cell? ⟨bb, off + i * 5 + 3, none⟩ = some (.slice x.1.K.A x.1.K.n x.1.K.c) ∧ w'.cell? ⟨bb, off + i * 5 + 4, none⟩ = some (.slice x.1.K.B x.1.K.m x.1.K.d) ∧ w'.cell? ⟨g, i, none⟩ = some (.int .i64 (u : Int))) := fun w' hb' => by
        obtain ⟨⟨q0, q1, q2, q3, q4⟩, q5⟩ := HAT0.out w' hb'
        rw [hoi] at q5
        exact ⟨q0, q1, q2, q3, q4, q5⟩
       have HSel : Hid ((selQ ps o' (i + 1)).map (·.1) = (selQ ps o' i).map (·.1) ++ [x.1] ∧ ((selO o' (i + 1)).map fun (u : Nat) => (u : Int)) = ((selO o' i).map fun (u : Nat) => (u : Int)) ++ [(u : Int)] ∧ (selO o' (i + 1)).length = (selO o' i).length + 1) := by
        rw [selQ_some hoi hx, selO_some hoi]
        exact ⟨by simp, by simp, by simp⟩
       have HKK : Hid (J ≤ 12) := by have h1 := HE.out.1; have h2 := selO_le (o := o') i; show J ≤ 12; omega
       have HP : Hid (Below w3.heap.size w3 wr) := HE.out.2.2.2
       have ER : Hid (OwnC wr w3.heap.size A9 c9 J ((selQ ps o' i).map (·.1)) ∧ OwnZ wr w3.heap.size A10 c10 J ((selO o' i).map fun (u : Nat) => (u : Int))) := ⟨HE.out.2.1, HE.out.2.2.1⟩
       have u0 : (0 : Int) ≤ (u : Int) := by omega
       obtain ⟨LQ, hLQ⟩ : ∃ LQ, LQ = (selQ ps o' i).map (·.1) := ⟨_, rfl⟩
       obtain ⟨LZ, hLZ⟩ : ∃ LZ, LZ = (selO o' i).map fun (u : Nat) => (u : Int) := ⟨_, rfl⟩
       have HKE := Lib.hid HE.out.1
       rw [← hLQ, ← hLZ] at ER HSel
       clear HAT0 HCO hoi hx hLQ hLZ HE
       obtain ⟨a0, a1, a2, a3, a4, c0⟩ := HAT.out _ HP.out
       go_wp2_with fail
       refine wp_region_held_drew (S := fun w' => w'.cell? ⟨bb, off + i * 5, none⟩ = some (.int .i64 x.1.s) ∧ w'.cell? ⟨bb, off + i * 5 + 1, none⟩ = some (.slice x.1.A x.1.n x.1.c) ∧ w'.cell? ⟨bb, off + i * 5 + 2, none⟩ = some (.bool x.1.K.s) ∧ w'.cell? ⟨bb, off + i * 5 + 3, none⟩ = some (.slice x.1.K.A x.1.K.n x.1.K.c) ∧ w'.cell? ⟨bb, off + i * 5 + 4, none⟩ = some (.slice x.1.K.B x.1.K.m x.1.K.d) ∧ w'.cell? ⟨g, i, none⟩ = some (.int .i64 (u : Int))) (by kernel_rfl) ?_ (fun hHeld => ?_)
       ·
        (try dsimp only)
        go_keep
       refine tk (i := 0) (h := ?_)
       try simp only [zR]
       refine tk (i := 1) (h := ?_)
       try simp only [zR]
       refine tk (i := 2) (h := ?_)
       try simp only [zR]
       refine tk (i := 3) (h := ?_)
       try simp only [zR]
       refine tk (i := 4) (h := ?_)
       try simp only [zR]
       refine tk (i := 7) (h := ?_)
       try simp only [zR]
       refine tk (i := 8) (h := ?_)
       try simp only [zR]
       refine tk (i := 9) (h := ?_)
       try simp only [zR]
       refine tk (i := 10) (h := ?_)
       try simp only [zR]
       refine tk (i := 11) (h := ?_)
       try simp only [zR]
       refine tr [5, 12] ?_
       refine tc (h := fun K hK => ?_) (hs := tc (h := fun K hK => ?_) (hs := tn))
       ·
        skip
        try go_simp
        try go_wp2_with fail
        refine hK.out _ _ ?_ (fun hHeld => ?_)
        · (try dsimp only); go_keep
        clear hK K
        try simp only [zR]
        have D5 : Hid (Below wr.heap.size wr (wr.alloc (.cells #[.int .i64 x.1.s, .slice x.1.A x.1.n x.1.c, .bool x.1.K.s, .slice x.1.K.A x.1.K.n x.1.K.c, .slice x.1.K.B x.1.K.m x.1.K.d] 43)).drew) := ((Below.refl _ _).alloc (Nat.le_refl _) _).drew
        have P5 : Hid (Below w3.heap.size w3 (wr.alloc (.cells #[.int .i64 x.1.s, .slice x.1.A x.1.n x.1.c, .bool x.1.K.s, .slice x.1.K.A x.1.K.n x.1.K.c, .slice x.1.K.B x.1.K.m x.1.K.d] 43)).drew) := HP.out.trans (D5.out.mono HP.out.size)
        have E5 : Hid (OwnC (wr.alloc (.cells #[.int .i64 x.1.s, .slice x.1.A x.1.n x.1.c, .bool x.1.K.s, .slice x.1.K.A x.1.K.n x.1.K.c, .slice x.1.K.B x.1.K.m x.1.K.d] 43)).drew w3.heap.size A9 c9 J LQ ∧ OwnZ (wr.alloc (.cells #[.int .i64 x.1.s, .slice x.1.A x.1.n x.1.c, .bool x.1.K.s, .slice x.1.K.A x.1.K.n x.1.K.c, .slice x.1.K.B x.1.K.m x.1.K.d] 43)).drew w3.heap.size A10 c10 J LZ) := ⟨ER.out.1.below D5.out, ER.out.2.below D5.out⟩
        have G5 : Hid ((wr.alloc (.cells #[.int .i64 x.1.s, .slice x.1.A x.1.n x.1.c, .bool x.1.K.s, .slice x.1.K.A x.1.K.n x.1.K.c, .slice x.1.K.B x.1.K.m x.1.K.d] 43)).drew.heap[wr.heap.size]? = some (.cells #[.int .i64 x.1.s, .slice x.1.A x.1.n x.1.c, .bool x.1.K.s, .slice x.1.K.A x.1.K.n x.1.K.c, .slice x.1.K.B x.1.K.m x.1.K.d] 43 (0, 0)) ∧ wr.heap.size < (wr.alloc (.cells #[.int .i64 x.1.s, .slice x.1.A x.1.n x.1.c, .bool x.1.K.s, .slice x.1.K.A x.1.K.n x.1.K.c, .slice x.1.K.B x.1.K.m x.1.K.d] 43)).drew.heap.size) := ⟨heap_alloc_new wr _, by simp⟩
        generalize (wr.alloc (.cells #[.int .i64 x.1.s, .slice x.1.A x.1.n x.1.c, .bool x.1.K.s, .slice x.1.K.A x.1.K.n x.1.K.c, .slice x.1.K.B x.1.K.m x.1.K.d] 43)).drew = w_5 at *
        clear a0 a1 a2 a3 a4 c0
        obtain ⟨a0, a1, a2, a3, a4, c0⟩ := HAT.out _ P5.out
        refine tr [6, 12] ?_
        refine tc (h := fun K hK => ?_) (hs := tc (h := fun K hK => ?_) (hs := tn))
        ·
         skip
         refine spc_appends rfl _ _ rfl rfl rfl (lo := w3.heap.size) E5.out.1 (kons_one (v := x.1) G5.out.1) (by have := HKK.out; omega) P5.out.size ?_
         intro A6 c6 w_6 hown hgrow
         have P6 : Hid (Below w3.heap.size w3 w_6) := below_rowC P5.out E5.out.1 hgrow (Nat.le_refl _) P5.out.size
         have E6 : Hid (OwnC w_6 w3.heap.size A6 c6 (J + 1) (LQ ++ [x.1]) ∧ OwnZ w_6 w3.heap.size A10 c10 J LZ) := ⟨hown, E5.out.2.grown hgrow (ownCZ_ne E5.out.1 E5.out.2)⟩
         clear hown hgrow
         clear a0 a1 a2 a3 a4 c0
         obtain ⟨a0, a1, a2, a3, a4, c0⟩ := HAT.out _ P6.out
         try go_wp2_with fail
         refine hK.out _ _ ?_ (fun hHeld => ?_)
         · (try dsimp only); go_keep
         clear hK K
         try simp only [zR]
         refine tr [12] ?_
         refine tc (h := fun K hK => ?_) (hs := tn)
         try go_simp
         try go_wp2_with fail
         refine hK.out _ _ ?_ (fun hHeld => ?_)
         · (try dsimp only); go_keep
         clear hK K
         try simp only [zR]
         have D12 : Hid (Below w_6.heap.size w_6 (w_6.alloc (.cells #[.int .i64 (u : Int)] 3))) := ((Below.refl _ _).alloc (Nat.le_refl _) _)
         have P12 : Hid (Below w3.heap.size w3 (w_6.alloc (.cells #[.int .i64 (u : Int)] 3))) := P6.out.trans (D12.out.mono P6.out.size)
         have E12 : Hid (OwnC (w_6.alloc (.cells #[.int .i64 (u : Int)] 3)) w3.heap.size A6 c6 (J + 1) (LQ ++ [x.1]) ∧ OwnZ (w_6.alloc (.cells #[.int .i64 (u : Int)] 3)) w3.heap.size A10 c10 J LZ) := ⟨E6.out.1.below D12.out, E6.out.2.below D12.out⟩
         have G12 : Hid ((w_6.alloc (.cells #[.int .i64 (u : Int)] 3)).heap[w_6.heap.size]? = some (.cells #[.int .i64 (u : Int)] 3 (0, 0)) ∧ w_6.heap.size < (w_6.alloc (.cells #[.int .i64 (u : Int)] 3)).heap.size) := ⟨heap_alloc_new w_6 _, by simp⟩
         generalize (w_6.alloc (.cells #[.int .i64 (u : Int)] 3)) = w_12 at *
         clear a0 a1 a2 a3 a4 c0
         obtain ⟨a0, a1, a2, a3, a4, c0⟩ := HAT.out _ P12.out
         refine tr [13] ?_
         refine tc (h := fun K hK => ?_) (hs := tn)
         refine spz_append rfl _ _ rfl rfl rfl (lo := w3.heap.size) E12.out.2 (zrow_blk G12.out.1) (by have := HKK.out; omega) P12.out.size ?_
         intro A13 c13 w_13 hown hgrow
         have P13 : Hid (Below w3.heap.size w3 w_13) := below_rowZ2 P12.out E12.out.2 hgrow (Nat.le_refl _) P12.out.size
         have E13 : Hid (OwnC w_13 w3.heap.size A6 c6 (J + 1) (LQ ++ [x.1]) ∧ OwnZ w_13 w3.heap.size A13 c13 (J + 1) (LZ ++ [(u : Int)])) := ⟨E12.out.1.grown hgrow (ownZC_ne E12.out.1 E12.out.2), hown⟩
         clear hown hgrow
         clear a0 a1 a2 a3 a4 c0
         obtain ⟨a0, a1, a2, a3, a4, c0⟩ := HAT.out _ P13.out
         try go_wp2_with fail
         refine hK.out _ _ ?_ (fun hHeld => ?_)
         · (try dsimp only); go_keep
         clear hK K
         try simp only [zR]
         refine tk (i := 14) (h := ?_)
         try simp only [zR]
         refine tk (i := 15) (h := ?_)
         try simp only [zR]
         refine wpAnyH_done (by kernel_rfl) ?_ _
         go_wp2
         go_roundw
         case rel => exact ⟨i + 1, J + 1, A6, c6, A13, c13, by omega, by go_num, rfl, rfl, ⟨by rw [HSel.out.2.2, HKE.out], by rw [HSel.out.1]; exact E13.out.1, by rw [HSel.out.2.1]; exact E13.out.2, P13.out⟩⟩
         case measure => simp [intOf]; omega
        ·
         skip
         try go_simp
         try go_wp2_with fail
         refine hK.out _ _ ?_ (fun hHeld => ?_)
         · (try dsimp only); go_keep
         clear hK K
         try simp only [zR]
         have D12 : Hid (Below w_5.heap.size w_5 (w_5.alloc (.cells #[.int .i64 (u : Int)] 3))) := ((Below.refl _ _).alloc (Nat.le_refl _) _)
         have P12 : Hid (Below w3.heap.size w3 (w_5.alloc (.cells #[.int .i64 (u : Int)] 3))) := P5.out.trans (D12.out.mono P5.out.size)
         have E12 : Hid (OwnC (w_5.alloc (.cells #[.int .i64 (u : Int)] 3)) w3.heap.size A9 c9 J LQ ∧ OwnZ (w_5.alloc (.cells #[.int .i64 (u : Int)] 3)) w3.heap.size A10 c10 J LZ) := ⟨E5.out.1.below D12.out, E5.out.2.below D12.out⟩
         have G12 : Hid ((w_5.alloc (.cells #[.int .i64 (u : Int)] 3)).heap[w_5.heap.size]? = some (.cells #[.int .i64 (u : Int)] 3 (0, 0)) ∧ w_5.heap.size < (w_5.alloc (.cells #[.int .i64 (u : Int)] 3)).heap.size) := ⟨heap_alloc_new w_5 _, by simp⟩
         replace G5 : Hid ((w_5.alloc (.cells #[.int .i64 (u : Int)] 3)).heap[wr.heap.size]? = some (.cells #[.int .i64 x.1.s, .slice x.1.A x.1.n x.1.c, .bool x.1.K.s, .slice x.1.K.A x.1.K.n x.1.K.c, .slice x.1.K.B x.1.K.m x.1.K.d] 43 (0, 0)) ∧ wr.heap.size < (w_5.alloc (.cells #[.int .i64 (u : Int)] 3)).heap.size) := ⟨(D12.out.block _ G5.out.2).trans G5.out.1, Nat.lt_of_lt_of_le G5.out.2 D12.out.size⟩
         generalize (w_5.alloc (.cells #[.int .i64 (u : Int)] 3)) = w_12 at *
         clear a0 a1 a2 a3 a4 c0
         obtain ⟨a0, a1, a2, a3, a4, c0⟩ := HAT.out _ P12.out
         refine tr [6] ?_
         refine tc (h := fun K hK => ?_) (hs := tn)
         refine spc_appends rfl _ _ rfl rfl rfl (lo := w3.heap.size) E12.out.1 (kons_one (v := x.1) G5.out.1) (by have := HKK.out; omega) P12.out.size ?_
         intro A6 c6 w_6 hown hgrow
         have P6 : Hid (Below w3.heap.size w3 w_6) := below_rowC P12.out E12.out.1 hgrow (Nat.le_refl _) P12.out.size
         have E6 : Hid (OwnC w_6 w3.heap.size A6 c6 (J + 1) (LQ ++ [x.1]) ∧ OwnZ w_6 w3.heap.size A10 c10 J LZ) := ⟨hown, E12.out.2.grown hgrow (ownCZ_ne E12.out.1 E12.out.2)⟩
         replace G12 : Hid (w_6.heap[w_5.heap.size]? = some (.cells #[.int .i64 (u : Int)] 3 (0, 0)) ∧ w_5.heap.size < w_6.heap.size) := ⟨(hgrow.block _ G12.out.2 (intC_ne E12.out.1 G12.out.1)).trans G12.out.1, Nat.lt_of_lt_of_le G12.out.2 hgrow.size⟩
         clear hown hgrow
         clear a0 a1 a2 a3 a4 c0
         obtain ⟨a0, a1, a2, a3, a4, c0⟩ := HAT.out _ P6.out
         try go_wp2_with fail
         refine hK.out _ _ ?_ (fun hHeld => ?_)
         · (try dsimp only); go_keep
         clear hK K
         try simp only [zR]
         refine tr [13] ?_
         refine tc (h := fun K hK => ?_) (hs := tn)
         refine spz_append rfl _ _ rfl rfl rfl (lo := w3.heap.size) E6.out.2 (zrow_blk G12.out.1) (by have := HKK.out; omega) P6.out.size ?_
         intro A13 c13 w_13 hown hgrow
         have P13 : Hid (Below w3.heap.size w3 w_13) := below_rowZ2 P6.out E6.out.2 hgrow (Nat.le_refl _) P6.out.size
         have E13 : Hid (OwnC w_13 w3.heap.size A6 c6 (J + 1) (LQ ++ [x.1]) ∧ OwnZ w_13 w3.heap.size A13 c13 (J + 1) (LZ ++ [(u : Int)])) := ⟨E6.out.1.grown hgrow (ownZC_ne E6.out.1 E6.out.2), hown⟩
         clear hown hgrow
         clear a0 a1 a2 a3 a4 c0
         obtain ⟨a0, a1, a2, a3, a4, c0⟩ := HAT.out _ P13.out
         try go_wp2_with fail
         refine hK.out _ _ ?_ (fun hHeld => ?_)
         · (try dsimp only); go_keep
         clear hK K
         try simp only [zR]
         refine tk (i := 14) (h := ?_)
         try simp only [zR]
         refine tk (i := 15) (h := ?_)
         try simp only [zR]
         refine wpAnyH_done (by kernel_rfl) ?_ _
         go_wp2
         go_roundw
         case rel => exact ⟨i + 1, J + 1, A6, c6, A13, c13, by omega, by go_num, rfl, rfl, ⟨by rw [HSel.out.2.2, HKE.out], by rw [HSel.out.1]; exact E13.out.1, by rw [HSel.out.2.1]; exact E13.out.2, P13.out⟩⟩
         case measure => simp [intOf]; omega
       ·
        skip
        try go_simp
        try go_wp2_with fail
        refine hK.out _ _ ?_ (fun hHeld => ?_)
        · (try dsimp only); go_keep
        clear hK K
        try simp only [zR]
        have D12 : Hid (Below wr.heap.size wr (wr.alloc (.cells #[.int .i64 (u : Int)] 3)).drew) := ((Below.refl _ _).alloc (Nat.le_refl _) _).drew
        have P12 : Hid (Below w3.heap.size w3 (wr.alloc (.cells #[.int .i64 (u : Int)] 3)).drew) := HP.out.trans (D12.out.mono HP.out.size)
        have E12 : Hid (OwnC (wr.alloc (.cells #[.int .i64 (u : Int)] 3)).drew w3.heap.size A9 c9 J LQ ∧ OwnZ (wr.alloc (.cells #[.int .i64 (u : Int)] 3)).drew w3.heap.size A10 c10 J LZ) := ⟨ER.out.1.below D12.out, ER.out.2.below D12.out⟩
        have G12 : Hid ((wr.alloc (.cells #[.int .i64 (u : Int)] 3)).drew.heap[wr.heap.size]? = some (.cells #[.int .i64 (u : Int)] 3 (0, 0)) ∧ wr.heap.size < (wr.alloc (.cells #[.int .i64 (u : Int)] 3)).drew.heap.size) := ⟨heap_alloc_new wr _, by simp⟩
        generalize (wr.alloc (.cells #[.int .i64 (u : Int)] 3)).drew = w_12 at *
        clear a0 a1 a2 a3 a4 c0
        obtain ⟨a0, a1, a2, a3, a4, c0⟩ := HAT.out _ P12.out
        refine tr [5] ?_
        refine tc (h := fun K hK => ?_) (hs := tn)
        try go_simp
        try go_wp2_with fail
        refine hK.out _ _ ?_ (fun hHeld => ?_)
        · (try dsimp only); go_keep
        clear hK K
        try simp only [zR]
        have D5 : Hid (Below w_12.heap.size w_12 (w_12.alloc (.cells #[.int .i64 x.1.s, .slice x.1.A x.1.n x.1.c, .bool x.1.K.s, .slice x.1.K.A x.1.K.n x.1.K.c, .slice x.1.K.B x.1.K.m x.1.K.d] 43))) := ((Below.refl _ _).alloc (Nat.le_refl _) _)
        have P5 : Hid (Below w3.heap.size w3 (w_12.alloc (.cells #[.int .i64 x.1.s, .slice x.1.A x.1.n x.1.c, .bool x.1.K.s, .slice x.1.K.A x.1.K.n x.1.K.c, .slice x.1.K.B x.1.K.m x.1.K.d] 43))) := P12.out.trans (D5.out.mono P12.out.size)
        have E5 : Hid (OwnC (w_12.alloc (.cells #[.int .i64 x.1.s, .slice x.1.A x.1.n x.1.c, .bool x.1.K.s, .slice x.1.K.A x.1.K.n x.1.K.c, .slice x.1.K.B x.1.K.m x.1.K.d] 43)) w3.heap.size A9 c9 J LQ ∧ OwnZ (w_12.alloc (.cells #[.int .i64 x.1.s, .slice x.1.A x.1.n x.1.c, .bool x.1.K.s, .slice x.1.K.A x.1.K.n x.1.K.c, .slice x.1.K.B x.1.K.m x.1.K.d] 43)) w3.heap.size A10 c10 J LZ) := ⟨E12.out.1.below D5.out, E12.out.2.below D5.out⟩
        have G5 : Hid ((w_12.alloc (.cells #[.int .i64 x.1.s, .slice x.1.A x.1.n x.1.c, .bool x.1.K.s, .slice x.1.K.A x.1.K.n x.1.K.c, .slice x.1.K.B x.1.K.m x.1.K.d] 43)).heap[w_12.heap.size]? = some (.cells #[.int .i64 x.1.s, .slice x.1.A x.1.n x.1.c, .bool x.1.K.s, .slice x.1.K.A x.1.K.n x.1.K.c, .slice x.1.K.B x.1.K.m x.1.K.d] 43 (0, 0)) ∧ w_12.heap.size < (w_12.alloc (.cells #[.int .i64 x.1.s, .slice x.1.A x.1.n x.1.c, .bool x.1.K.s, .slice x.1.K.A x.1.K.n x.1.K.c, .slice x.1.K.B x.1.K.m x.1.K.d] 43)).heap.size) := ⟨heap_alloc_new w_12 _, by simp⟩
        replace G12 : Hid ((w_12.alloc (.cells #[.int .i64 x.1.s, .slice x.1.A x.1.n x.1.c, .bool x.1.K.s, .slice x.1.K.A x.1.K.n x.1.K.c, .slice x.1.K.B x.1.K.m x.1.K.d] 43)).heap[wr.heap.size]? = some (.cells #[.int .i64 (u : Int)] 3 (0, 0)) ∧ wr.heap.size < (w_12.alloc (.cells #[.int .i64 x.1.s, .slice x.1.A x.1.n x.1.c, .bool x.1.K.s, .slice x.1.K.A x.1.K.n x.1.K.c, .slice x.1.K.B x.1.K.m x.1.K.d] 43)).heap.size) := ⟨(D5.out.block _ G12.out.2).trans G12.out.1, Nat.lt_of_lt_of_le G12.out.2 D5.out.size⟩
        generalize (w_12.alloc (.cells #[.int .i64 x.1.s, .slice x.1.A x.1.n x.1.c, .bool x.1.K.s, .slice x.1.K.A x.1.K.n x.1.K.c, .slice x.1.K.B x.1.K.m x.1.K.d] 43)) = w_5 at *
        clear a0 a1 a2 a3 a4 c0
        obtain ⟨a0, a1, a2, a3, a4, c0⟩ := HAT.out _ P5.out
        refine tr [6] ?_
        refine tc (h := fun K hK => ?_) (hs := tn)
        refine spc_appends rfl _ _ rfl rfl rfl (lo := w3.heap.size) E5.out.1 (kons_one (v := x.1) G5.out.1) (by have := HKK.out; omega) P5.out.size ?_
        intro A6 c6 w_6 hown hgrow
        have P6 : Hid (Below w3.heap.size w3 w_6) := below_rowC P5.out E5.out.1 hgrow (Nat.le_refl _) P5.out.size
        have E6 : Hid (OwnC w_6 w3.heap.size A6 c6 (J + 1) (LQ ++ [x.1]) ∧ OwnZ w_6 w3.heap.size A10 c10 J LZ) := ⟨hown, E5.out.2.grown hgrow (ownCZ_ne E5.out.1 E5.out.2)⟩
        replace G12 : Hid (w_6.heap[wr.heap.size]? = some (.cells #[.int .i64 (u : Int)] 3 (0, 0)) ∧ wr.heap.size < w_6.heap.size) := ⟨(hgrow.block _ G12.out.2 (intC_ne E5.out.1 G12.out.1)).trans G12.out.1, Nat.lt_of_lt_of_le G12.out.2 hgrow.size⟩
        clear hown hgrow
        clear a0 a1 a2 a3 a4 c0
        obtain ⟨a0, a1, a2, a3, a4, c0⟩ := HAT.out _ P6.out
        try go_wp2_with fail
        refine hK.out _ _ ?_ (fun hHeld => ?_)
        · (try dsimp only); go_keep
        clear hK K
        try simp only [zR]
        refine tr [13] ?_
        refine tc (h := fun K hK => ?_) (hs := tn)
        refine spz_append rfl _ _ rfl rfl rfl (lo := w3.heap.size) E6.out.2 (zrow_blk G12.out.1) (by have := HKK.out; omega) P6.out.size ?_
        intro A13 c13 w_13 hown hgrow
        have P13 : Hid (Below w3.heap.size w3 w_13) := below_rowZ2 P6.out E6.out.2 hgrow (Nat.le_refl _) P6.out.size
        have E13 : Hid (OwnC w_13 w3.heap.size A6 c6 (J + 1) (LQ ++ [x.1]) ∧ OwnZ w_13 w3.heap.size A13 c13 (J + 1) (LZ ++ [(u : Int)])) := ⟨E6.out.1.grown hgrow (ownZC_ne E6.out.1 E6.out.2), hown⟩
        clear hown hgrow
        clear a0 a1 a2 a3 a4 c0
        obtain ⟨a0, a1, a2, a3, a4, c0⟩ := HAT.out _ P13.out
        try go_wp2_with fail
        refine hK.out _ _ ?_ (fun hHeld => ?_)
        · (try dsimp only); go_keep
        clear hK K
        try simp only [zR]
        refine tk (i := 14) (h := ?_)
        try simp only [zR]
        refine tk (i := 15) (h := ?_)
        try simp only [zR]
        refine wpAnyH_done (by kernel_rfl) ?_ _
        go_wp2
        go_roundw
        case rel => exact ⟨i + 1, J + 1, A6, c6, A13, c13, by omega, by go_num, rfl, rfl, ⟨by rw [HSel.out.2.2, HKE.out], by rw [HSel.out.1]; exact E13.out.1, by rw [HSel.out.2.1]; exact E13.out.2, P13.out⟩⟩
        case measure => simp [intOf]; omega
     ·
      have i1 : ¬ (i : Int) < (k : Int) := by omega
      have e : i = k := by omega
      rw [e] at HE
      have hM := (H4.out.2.2.1.turn H4.out.1 HE.out.2.2.2).sel H4.out.1.len
      have hKe := HE.out.1
      rw [← hKe] at hM
      have hK12 : J ≤ 12 := by have h2 := selO_le (o := o') k; omega
      have HQ : Hid (Gns wr A9 J (selQ ps o' k) ∧ ZRow wr A10 J ((selO o' k).map fun (u : Nat) => (u : Int)) ∧ May wr n J (selQ ps o' k) J ((selO o' k).map fun (u : Nat) => (u : Int)) (fun j => (selO o' k)[j]?) ∧ Below w.heap.size w wr) :=
       ⟨⟨HE.out.2.1.kons, fun x hx => (H4.out.1.each x (List.mem_of_mem_take ((selQ_sub k (by rw [H4.out.1.len]; exact Nat.le_refl _)).subset hx))).below HE.out.2.2.2, by omega⟩, HE.out.2.2.1.row, hM, H4.out.2.2.2.trans (HE.out.2.2.2.mono H4.out.2.2.2.size)⟩
      have HTL : Hid (∀ j, j < J → ((selO o' k)[j]?).isSome = true) := fun j hj => by rw [List.getElem?_eq_getElem (by omega)]; rfl
      clear HE hM hKe e
      obtain ⟨QS, hQS⟩ : ∃ QS, QS = selQ ps o' k := ⟨_, rfl⟩
      obtain ⟨OQ, hOQ⟩ : ∃ OQ : Nat → Option Nat, OQ = fun j => (selO o' k)[j]? := ⟨_, rfl⟩
      obtain ⟨LZ, hLZ⟩ : ∃ LZ, LZ = (selO o' k).map fun (u : Nat) => (u : Int) := ⟨_, rfl⟩
      have HTL2 : Hid (∀ j, j < J → (OQ j).isSome = true) := fun j hj => by rw [hOQ]; exact HTL.out j hj
      rw [← hQS, ← hLZ, ← hOQ] at HQ
      clear hQS hOQ hLZ HTL
      go_wp2_with fail
      refine (Settle_c wr n J A9 c9 QS A10 J c10 LZ wr HQ.out.1 hK12 (by omega) HQ.out.2.1 (Below.refl _ _)).mono ?_
      rintro e w9 ⟨hb9, _, hyes9⟩
      obtain ⟨g9, cg9, l9, o9, rfl, hz9, hl9, _, hst9⟩ := hyes9 OQ HQ.out.2.2.1
      have eo : o9 = OQ := hst9.det (.done _ (Rnd.still fun j hj => HTL2.out j (List.mem_range.1 (hl9.mem_iff.1 hj))))
      rw [eo, ← HQ.out.2.2.1.outs] at hz9
      have H9 : Hid (ZRow w9 (some ⟨g9, 0, none⟩) J LZ ∧ ZRow w9 A10 J LZ ∧ Below w.heap.size w w9) := ⟨hz9.row, HQ.out.2.1.below hb9, HQ.out.2.2.2.trans (hb9.mono HQ.out.2.2.2.size)⟩
      clear hb9 hyes9 hz9 hl9 hst9 eo
      go_wp2_with fail
      refine (numbers_c A10 (some ⟨g9, 0, none⟩) J J c10 cg9 LZ LZ w9 H9.out.2.1 H9.out.1 (by omega) (by omega)).mono ?_
      rintro e w5 ⟨⟨r, rfl, hr⟩, hb5⟩
      obtain rfl : r = true := hr.2 rfl
      have H5 : Hid (Below w.heap.size w w5) := H9.out.2.2.trans (hb5.mono H9.out.2.2.size)
      clear hr hb5
      go_wp2_with fail
      refine (known13_c w5).mono ?_
      rintro e w6 ⟨rfl, hb6⟩
      have H6 : Hid (Below w.heap.size w w6) := H5.out.trans (hb6.mono H5.out.size)
      clear hb6
      go_wp2
      go_ret
      exact ⟨rfl, H6.out⟩
   ·
    have HN : Hid (∀ o, ¬ May wr n k ps k (List.replicate k (-1)) o) := fun o h => hmay ⟨o, h⟩
    obtain ⟨A3, c3, rfl, hz3⟩ := hno HN.out
    have H3 := Lib.hid hb3
    clear hb3 hno hyes hz3 hmay
    go_wp2_with fail
    refine (rIs13_c wr n k A c ps A2 k c2 _ w3 HG.out.1 mN (by omega) HG.out.2.1 H3.out).mono ?_
    rintro e w4 ⟨⟨r, rfl, hr⟩, hb4⟩
    obtain rfl : r = false := Bool.eq_false_iff.2 fun e => by obtain ⟨o, ho⟩ := hr.1 e; exact HN.out o ho
    have H4 : Hid (Below w.heap.size w w4) := HG.out.2.2.trans ((H3.out.trans (hb4.mono H3.out.size)).mono HG.out.2.2.size)
    clear hr hb4
    go_wp2_with fail
    refine (known13_c w4).mono ?_
    rintro e w5 ⟨rfl, hb5⟩
    have H5 : Hid (Below w.heap.size w w5) := H4.out.trans (hb5.mono H4.out.size)
    clear hb5
    go_wp2
    go_ret
    exact ⟨rfl, H5.out⟩
end Go.Proofs.Ytjbhhccklfddaaa
