/-
  A constraint is enforced, by the document.
-/
import Derived.Test.YtjbhhccklfddaaaVRWl
import Derived.Test.YtjbhhccklfddaaaVDlE
import Derived.Test.YtjbhhccklfddaaaVBRow
namespace Go.Proofs.Ytjbhhccklfddaaa
set_option maxRecDepth 20000
open Go.RowKit
def takenL (n : Nat) (f : Nat → Bool) : List Bool := (List.range n).map fun v => !f v
theorem takenL_get {n : Nat} {f : Nat → Bool} {v : Nat} (h : v < n) : (takenL n f)[v]? = some (!f v) := by
 unfold takenL; rw [List.getElem?_map, List.getElem?_range h]; rfl
theorem takenL_all (n : Nat) : List.replicate n false = takenL n allF := (List.eq_replicate_iff.2 ⟨by unfold takenL; simp, fun b hb => by
 obtain ⟨v, _, rfl⟩ := List.mem_map.1 hb
 rfl⟩).symm
theorem takenL_set {n : Nat} {f : Nat → Bool} (u : Nat) : (takenL n f).set u true = takenL n fun v => if v = u then false else f v := by
 apply List.ext_getElem?
 intro v
 have hl : ∀ f, (takenL n f).length = n := fun f => by unfold takenL; simp
 rw [List.getElem?_set]
 by_cases e : u = v
 ·
  subst e
  rw [if_pos rfl, hl]
  by_cases hv : u < n
  · rw [if_pos hv, takenL_get hv, if_pos rfl]; rfl
  · rw [if_neg hv, List.getElem?_eq_none (by rw [hl]; omega)]
 ·
  rw [if_neg e]
  by_cases hv : v < n
  · rw [takenL_get hv, takenL_get hv, if_neg (fun k => e k.symm)]
  · rw [List.getElem?_eq_none (by rw [hl]; omega), List.getElem?_eq_none (by rw [hl]; omega)]
set_option maxHeartbeats 12800000 in
theorem rEnforce_c {w0 : World} {n N : Nat} {A : Option Addr} {cA : Nat} {ps : List (Cv × List Tv)} {vs : Nat → List Nat} {s : Nat → Nat} (hS : Sys w0 n N A ps vs s) (hB : Bridge N vs) {o : Nat → Option Nat} (hC : Cho N vs o)
  (lo i g c : Nat) (w : World) (hb0 : Below w0.heap.size w0 w) (hlo : w0.heap.size ≤ lo) (hz : OwnZ w lo (some ⟨g, 0, none⟩) c N (outsL N o)) (hlw : lo ≤ w.heap.size) (hi : i < N) (h0 : o i = none) :
  Calls Try.prog 30 #[.slice A N cA, .slice (some ⟨g, 0, none⟩) N c, .int .i64 (i : Int), .int .i64 (n : Int)] w fun e w' => e = .returned (.tuple #[]) ∧ ∃ o', Enf N vs s o allF i o' ∧ Cho N vs o' ∧ OwnZ w' lo (some ⟨g, 0, none⟩) c N (outsL N o') ∧ But2 g g w w' := by
 obtain ⟨ib, hib, hbz0, hbz1, hbz2⟩ := info_parts Try.infob4
 have N9 := hS.N9
 have n64 := hS.n64
 have n0 : (0 : Int) ≤ (n : Int) := by omega
 have n1 : (n : Int) ≤ 64 := by omega
 have HD := Lib.hid (And.intro hb0 (And.intro hlo hz))
 have HL : Hid (lo ≤ g ∧ g < w.heap.size ∧ lo ≤ w.heap.size) := ⟨hz.lt.1, hz.lt.2, hlw⟩
 clear hb0 hlo hz hlw
 go_enter Try.func30, Try.ntmps30
 go_wp2_with (at_make; refine wpList_make_full _ rfl _ _ _ rfl w.heap.size 4 ib (.bool false) 1 Try.underlying46 hib hbz0 hbz1 .i64 .i64 _ _ n rfl rfl (by first | rfl | omega) (by first | rfl | omega) (by first | omega | (rw [hbz2]; omega)) (by unfold maxLen; omega) (Nat.le_refl _) ?_)
 intro W hown hgr
 obtain ⟨gt, hgt⟩ : ∃ gt, gt = w.heap.size := ⟨_, rfl⟩
 have HG : Hid (OwnB W w.heap.size (some ⟨gt, 0, none⟩) n n (takenL n allF) ∧ OwnZ W lo (some ⟨g, 0, none⟩) c N (outsL N o) ∧ But2 g g w W) := by
  have hWb := below_of_grown hgr
  have h1 := OwnB.made hown
  rw [takenL_all] at h1
  exact ⟨by rw [hgt]; exact h1, HD.out.2.2.below hWb, But2.of hWb⟩
 have HGT : Hid (gt ≠ g ∧ w.heap.size ≤ gt) := by have := HL.out; exact ⟨by omega, by omega⟩
 rw [← hgt]
 clear hown hgr hgt hbz0 hbz1 hbz2 hib
 have HE : Hid (EnfI N vs s o i (N + 1) (some i) o allF) := ⟨hC, fun e => (by cases e), fun j e => (by injection e with e; subst e; exact ⟨hi, h0, fun _ h => h, [], ⟨List.nodup_nil, fun _ h => absurd h List.not_mem_nil⟩, by simp⟩)⟩
 go_wp2
 go_loopg [2] (N + 1) (fun gk s2 wr => ∃ (x : Option Nat) (o1 : Nat → Option Nat) (f : Nat → Bool), s2 = .int .i64 (oi x) ∧ Hid (EnfI N vs s o i gk x o1 f) ∧ Hid (OwnB wr w.heap.size (some ⟨gt, 0, none⟩) n n (takenL n f) ∧ OwnZ wr lo (some ⟨g, 0, none⟩) c N (outsL N o1) ∧ But2 g g w wr))
 case atStart => exact ⟨some i, o, allF, rfl, HE, HG⟩
 case round =>
  clear HE HG
  obtain ⟨x, o1, f, rfl, HE, HG⟩ := hrel
  cases x with
  |
   none =>
   have e0 : oi none = -1 := rfl
   rw [e0]
   clear e0
   go_wp2
   refine bodyPost_end (results_none rfl _ _ _) rfl ?_
   exact ⟨rfl, o1, HE.out.fin rfl, HE.out.cho, HG.out.2.1, HG.out.2.2⟩
  |
   some j =>
   have e0 : oi (some j) = (j : Int) := rfl
   rw [e0]
   clear e0
   obtain ⟨hj, hj0, hK, S, hL, hN⟩ := HE.out.go j rfl
   have hcho := HE.out.cho
   cases gk with
   | zero => exact absurd hL.len (by omega)
   | succ gk =>
   have HK := Lib.hid (And.intro hK (And.intro hL hN))
   clear hK hL hN HE
   have HB0 : Hid (Below w0.heap.size w0 wr) := HD.out.1.trans ((HG.out.2.2.below HL.out.1 HL.out.1 HL.out.2.2).mono HD.out.2.1)
   obtain ⟨bb, off, va, hcu⟩ := hS.conU hj
   have hca := hcu wr HB0.out
   have HCU := Lib.hid hcu
   have HKL := Lib.hid hca.k
   have hA := hca.adr
   subst hA
   obtain ⟨x0, _, _, _, _⟩ := hca.cells
   rw [hca.s] at x0
   obtain ⟨σ, hσ⟩ : ∃ σ, σ = s j := ⟨_, rfl⟩
   rw [← hσ] at x0
   have HSG := Lib.hid hσ
   have k9 := hca.k9
   have k0 : (0 : Int) ≤ (va.n : Int) := by omega
   have j0 : (0 : Int) ≤ (j : Int) := by omega
   have j1 : (j : Int) < (N : Int) := by omega
   clear hca hcu hσ
   have H1 : Hid (OwnB wr.drew w.heap.size (some ⟨gt, 0, none⟩) n n (takenL n f) ∧ OwnZ wr.drew lo (some ⟨g, 0, none⟩) c N (outsL N o1) ∧ But2 g g w wr.drew) := ⟨HG.out.1.below (Below.refl _ _).drew, HG.out.2.1.drew, HG.out.2.2.drew⟩
   clear HG HB0
   go_wp2_with fail
   go_region_held3 (fun w' => w'.cell? ⟨bb, off + j * 5, none⟩ = some (.int .i64 (σ : Int))) (go_keep) (fail)
   generalize wr.drew = W2 at *
   clear x0
   go_wp2
   have HP0 : Hid (pickW (wk N vs s o1) f ((vs j).take 0) (s j) = (none, σ)) := by rw [HSG.out]; rfl
   go_loopw [9, 10, 11] (fun bv sv kv wr => ∃ (k : Nat) (p : Option Nat × Nat), k ≤ va.n ∧ kv = .int .i64 k ∧ bv = .int .i64 (oi p.1) ∧ sv = .int .i64 (p.2 : Int) ∧ Hid (pickW (wk N vs s o1) f ((vs j).take k) (s j) = p) ∧ Hid (OwnB wr w.heap.size (some ⟨gt, 0, none⟩) n n (takenL n f) ∧ OwnZ wr lo (some ⟨g, 0, none⟩) c N (outsL N o1) ∧ But2 g g w wr)) (fun _ _ kv _ => va.n - (intOf kv).toNat)
   case atStart => exact ⟨0, (none, σ), Nat.zero_le _, rfl, rfl, rfl, HP0, H1⟩
   case round =>
    clear HP0 H1
    obtain ⟨k, ⟨pb, p⟩, hk, rfl, rfl, rfl, HP, HQ⟩ := hrel
    have HBq : Hid (Below w0.heap.size w0 wr) := HD.out.1.trans ((HQ.out.2.2.below HL.out.1 HL.out.1 HL.out.2.2).mono HD.out.2.1)
    have k0' : (0 : Int) ≤ (k : Int) := by omega
    obtain ⟨_, x1, _, _, _⟩ := (HCU.out wr HBq.out).cells
    by_cases hlt : k < va.n
    ·
     have k1 : (k : Int) < (va.n : Int) := by omega
     obtain ⟨bk, of2, x, hVA, hbk, ⟨y0, _, _, _⟩, hxv, hxn⟩ := (HCU.out wr HBq.out).ts k hlt
     rw [hVA] at x1
     have hkl : k < (vs j).length := by rw [← HKL.out]; exact hlt
     have htk : (vs j).take (k + 1) = (vs j).take k ++ [nth (vs j) k] := by rw [List.take_add_one, nth_get hkl]; rfl
     obtain ⟨u, hu⟩ : ∃ u, u = nth (vs j) k := ⟨_, rfl⟩
     rw [← hu] at hxv hxn htk
     rw [hxv] at y0
     have u0 : (0 : Int) ≤ (u : Int) := by omega
     have u1 : (u : Int) < (n : Int) := by omega
     obtain ⟨q, hq⟩ : ∃ q, q = wk N vs s o1 u := ⟨_, rfl⟩
     have HST : Hid (pickW (wk N vs s o1) f ((vs j).take (k + 1)) (s j) = if f u = true ∧ p < q then (some u, q) else (pb, p)) := by
      show _ = _
      rw [htk, pickW_snoc, HP.out, hq]
     have HWQ : Hid (wkF N vs s o1 N u = q) := hq.symm
     clear hu htk hkl hVA hq
     go_wp2_with fail
     refine (rwalk_c hS hB hcho _ c N [] u wr (Pth.start ..) (by simp) HBq.out HQ.out.2.1.row hxn).mono ?_
     rintro ee w2 ⟨rfl, hb2⟩
     rw [HWQ.out]
     have HQ2 : Hid (OwnB w2 w.heap.size (some ⟨gt, 0, none⟩) n n (takenL n f) ∧ OwnZ w2 lo (some ⟨g, 0, none⟩) c N (outsL N o1) ∧ But2 g g w w2) := ⟨HQ.out.1.below hb2, HQ.out.2.1.below hb2, HQ.out.2.2.next hb2⟩
     have ct := HQ2.out.1.cell hxn (takenL_get hxn)
     clear hb2 HQ HBq x1 y0
     cases hf : f u with
     |
      false =>
      rw [hf] at ct
      have ct' : w2.cell? ⟨gt, u, none⟩ = some (.bool true) := ct
      have HP2 : Hid (pickW (wk N vs s o1) f ((vs j).take (k + 1)) (s j) = (pb, p)) := by
       show _ = _
       rw [HST.out, if_neg (fun h => by rw [hf] at h; exact Bool.noConfusion h.1)]
      clear ct hf
      go_wp2
      go_roundw
      case rel => exact ⟨k + 1, (pb, p), by omega, by go_num, rfl, rfl, HP2, HQ2⟩
      case measure => simp [intOf]; omega
     |
      true =>
      rw [hf] at ct
      have ct' : w2.cell? ⟨gt, u, none⟩ = some (.bool false) := ct
      have HFU := Lib.hid hf
      clear ct hf
      by_cases hpq : p < q
      ·
       have hpqi : (p : Int) < (q : Int) := by omega
       have HP2 : Hid (pickW (wk N vs s o1) f ((vs j).take (k + 1)) (s j) = (some u, q)) := by
        show _ = _
        rw [HST.out, if_pos ⟨HFU.out, hpq⟩]
       go_wp2
       go_roundw
       case rel => exact ⟨k + 1, (some u, q), by omega, by go_num, rfl, rfl, HP2, HQ2⟩
       case measure => simp [intOf]; omega
      ·
       have hpqi : ¬ (p : Int) < (q : Int) := by omega
       have HP2 : Hid (pickW (wk N vs s o1) f ((vs j).take (k + 1)) (s j) = (pb, p)) := by
        show _ = _
        rw [HST.out, if_neg (fun h => hpq h.2)]
       go_wp2
       go_roundw
       case rel => exact ⟨k + 1, (pb, p), by omega, by go_num, rfl, rfl, HP2, HQ2⟩
       case measure => simp [intOf]; omega
    ·
     have k1 : ¬ (k : Int) < (va.n : Int) := by omega
     have HP2 : Hid ((pickW (wk N vs s o1) f (vs j) (s j)).1 = pb) := by
      have h := HP.out
      rw [List.take_of_length_le (by rw [← HKL.out]; omega)] at h
      show _ = _
      rw [h]
     clear HP HBq
     cases pb with
     |
      none =>
      rw [show oi none = -1 from rfl]
      have HF : Hid (Enf N vs s o allF i o1) := HK.out.1 _ (.stop _ _ _ HP2.out)
      go_wp2
      refine bodyPost_ret (results_none rfl _ _ _) rfl ?_
      exact ⟨rfl, o1, HF.out, hcho, HQ.out.2.1, HQ.out.2.2⟩
     |
      some v =>
      obtain ⟨hv, hfv, _⟩ := (pickW_spec _ _ _ _).2.2.2 v HP2.out
      have hvn := hS.lt hj hv
      have HV := Lib.hid (And.intro hv (And.intro hfv hj0))
      rw [show oi (some v) = (v : Int) from rfl]
      have v0 : (0 : Int) ≤ (v : Int) := by omega
      clear hv hfv hj0
      go_wp2_with fail
      clear x1
      refine (who_c (some ⟨g, 0, none⟩) c v wr HQ.out.2.1.row N9).mono ?_
      rintro ee w2 ⟨rfl, hb2⟩
      have HQ2 : Hid (OwnB w2 w.heap.size (some ⟨gt, 0, none⟩) n n (takenL n f) ∧ OwnZ w2 lo (some ⟨g, 0, none⟩) c N (outsL N o1) ∧ But2 g g w w2) := ⟨HQ.out.1.below hb2, HQ.out.2.1.below hb2, HQ.out.2.2.next hb2⟩
      clear hb2 HQ
      -- who told it tells none, and j tells it
      have HN : Hid (∀ f2, f2 = (fun u => f u && !(vs j).contains u) → EnfI N vs s o i gk (tel N o1 v) (tellTo N o1 j v) f2) := by
       intro f2 hf2
       obtain ⟨k1, k2, k3⟩ := HK.out
       obtain ⟨v1, v2, v3⟩ := HV.out
       have hc2 := hcho.tellTo hj v1
       refine ⟨hc2, fun e => k1 _ (.took _ _ _ _ HP2.out e), fun d e => ?_⟩
       obtain ⟨d1, d2⟩ := tel_of e
       have hdj : d ≠ j := fun q => by rw [q, v3] at d2; cases d2
       refine ⟨d1, by rw [tellTo_other hcho hdj, if_pos d2], fun o' ho => k1 _ (.push _ _ _ _ _ _ HP2.out e (by rw [hf2] at ho; exact ho)), j :: S, ?_, by rw [List.length_cons]; omega⟩
       rw [hf2]
       exact k2.step hcho hj v1 v2 v3
      cases ht : tel N o1 v with
      |
       none =>
       rw [ht] at HN
       rw [show oi none = -1 from rfl]
       have cj := HQ2.out.2.1.cell hj
       have tj := HQ2.out.2.1.thaw j
       have HW : Hid (OwnB (w2.setCell ⟨g, j, none⟩ (.int .i64 (v : Int))) w.heap.size (some ⟨gt, 0, none⟩) n n (takenL n (cutF f (vs j) 0)) ∧ OwnZ (w2.setCell ⟨g, j, none⟩ (.int .i64 (v : Int))) lo (some ⟨g, 0, none⟩) c N (outsL N (tellTo N o1 j v)) ∧ But2 g g w (w2.setCell ⟨g, j, none⟩ (.int .i64 (v : Int)))) := by
        obtain ⟨q1, q2, q3⟩ := HQ2.out
        refine ⟨?_, ?_, q3.set (.inr rfl) _ _⟩
        ·
         rw [cutF_zero]
         exact q1.grown (set_growZ w2 g j _) (fun ad e => by injection e with e; subst e; intro q; injection q with q; exact HGT.out.1 q)
        ·
         have h1 := q2.set j (oi (some v))
         rw [outsL_set] at h1
         unfold tellTo; rw [ht]; exact h1
       clear ht
       go_wp2
       generalize w2.setCell ⟨g, j, none⟩ (.int .i64 (v : Int)) = W5 at *
       clear cj tj
       go_loopw [15] (fun kv wr => ∃ k : Nat, k ≤ va.n ∧ kv = .int .i64 k ∧ Hid (OwnB wr w.heap.size (some ⟨gt, 0, none⟩) n n (takenL n (cutF f (vs j) k)) ∧ OwnZ wr lo (some ⟨g, 0, none⟩) c N (outsL N (tellTo N o1 j v)) ∧ But2 g g w wr)) (fun kv _ => va.n - (intOf kv).toNat)
       case atStart => exact ⟨0, Nat.zero_le _, rfl, HW⟩
       case round =>
        clear HW HQ2
        obtain ⟨k, hk, rfl, HQ⟩ := hrel
        have HBq : Hid (Below w0.heap.size w0 wr) := HD.out.1.trans ((HQ.out.2.2.below HL.out.1 HL.out.1 HL.out.2.2).mono HD.out.2.1)
        have k0' : (0 : Int) ≤ (k : Int) := by omega
        obtain ⟨_, x1, _, _, _⟩ := (HCU.out wr HBq.out).cells
        by_cases hlt : k < va.n
        ·
         have k1 : (k : Int) < (va.n : Int) := by omega
         obtain ⟨bk, of2, x, hVA, hbk, ⟨y0, _, _, _⟩, hxv, hxn⟩ := (HCU.out wr HBq.out).ts k hlt
         rw [hVA] at x1
         have hkl : k < (vs j).length := by rw [← HKL.out]; exact hlt
         have HST := Lib.hid (cutF_step (f := f) hkl)
         obtain ⟨u, hu⟩ : ∃ u, u = nth (vs j) k := ⟨_, rfl⟩
         rw [← hu] at hxv hxn HST
         rw [hxv] at y0
         have u0 : (0 : Int) ≤ (u : Int) := by omega
         have u1 : (u : Int) < (n : Int) := by omega
         have ct := HQ.out.1.cell hxn (takenL_get hxn)
         have tt := HQ.out.1.thaw u
         have HQ3 : Hid (OwnB (wr.setCell ⟨gt, u, none⟩ (.bool true)) w.heap.size (some ⟨gt, 0, none⟩) n n (takenL n (cutF f (vs j) (k + 1))) ∧ OwnZ (wr.setCell ⟨gt, u, none⟩ (.bool true)) lo (some ⟨g, 0, none⟩) c N (outsL N (tellTo N o1 j v)) ∧ But2 g g w (wr.setCell ⟨gt, u, none⟩ (.bool true))) := by
          obtain ⟨q1, q2, q3⟩ := HQ.out
          refine ⟨?_, q2.grown (set_growZ wr gt u _) (fun ad e => by injection e with e; subst e; intro q; injection q with q; exact HGT.out.1 q.symm), q3.new HGT.out.2 _ _⟩
          have h1 := q1.set u true
          rw [takenL_set, HST.out] at h1
          exact h1
         clear hu hVA hkl HQ HBq
         go_wp2
         go_roundw
         case rel => exact ⟨k + 1, by omega, by go_num, HQ3⟩
         case measure => simp [intOf]; omega
        ·
         have k1 : ¬ (k : Int) < (va.n : Int) := by omega
         have HQ3 : Hid (OwnB wr w.heap.size (some ⟨gt, 0, none⟩) n n (takenL n (fun u => f u && !(vs j).contains u)) ∧ OwnZ wr lo (some ⟨g, 0, none⟩) c N (outsL N (tellTo N o1 j v)) ∧ But2 g g w wr) := by
          have h1 := HQ.out
          rw [cutF_all f (by rw [← HKL.out]; omega)] at h1
          exact h1
         clear HQ HBq HK HV HP2
         go_wp2
         go_roundg gk
         case measure => omega
         case rel => exact ⟨_, tellTo N o1 j v, _, rfl, HN.out _ rfl, HQ3⟩
      |
       some d =>
       rw [ht] at HN
       obtain ⟨hd, hdv⟩ := tel_of ht
       have d0 : (0 : Int) ≤ (d : Int) := by omega
       have d1 : (d : Int) < (N : Int) := by omega
       rw [show oi (some d) = (d : Int) from rfl]
       have cd := HQ2.out.2.1.cell hd
       have td := HQ2.out.2.1.thaw d
       have HZ1 : Hid (OwnZ (w2.setCell ⟨g, d, none⟩ (.int .i64 (-1))) lo (some ⟨g, 0, none⟩) c N ((outsL N o1).set d (-1))) := HQ2.out.2.1.set d (-1)
       have cj := HZ1.out.cell hj
       have tj := HZ1.out.thaw j
       have HW : Hid (OwnB ((w2.setCell ⟨g, d, none⟩ (.int .i64 (-1))).setCell ⟨g, j, none⟩ (.int .i64 (v : Int))) w.heap.size (some ⟨gt, 0, none⟩) n n (takenL n (cutF f (vs j) 0)) ∧ OwnZ ((w2.setCell ⟨g, d, none⟩ (.int .i64 (-1))).setCell ⟨g, j, none⟩ (.int .i64 (v : Int))) lo (some ⟨g, 0, none⟩) c N (outsL N (tellTo N o1 j v)) ∧ But2 g g w ((w2.setCell ⟨g, d, none⟩ (.int .i64 (-1))).setCell ⟨g, j, none⟩ (.int .i64 (v : Int)))) := by
        obtain ⟨q1, q2, q3⟩ := HQ2.out
        refine ⟨?_, ?_, (q3.set (.inr rfl) _ _).set (.inr rfl) _ _⟩
        ·
         rw [cutF_zero]
         exact (q1.grown (set_growZ w2 g d _) (fun ad e => by injection e with e; subst e; intro q; injection q with q; exact HGT.out.1 q)).grown (set_growZ _ g j _) (fun ad e => by injection e with e; subst e; intro q; injection q with q; exact HGT.out.1 q)
        ·
         have h0 : OwnZ (w2.setCell ⟨g, d, none⟩ (.int .i64 (-1))) lo (some ⟨g, 0, none⟩) c N (outsL N (upd o1 d none)) := by
          have h1 := HZ1.out
          rw [show (-1 : Int) = oi none from rfl, outsL_set] at h1
          exact h1
         have h1 := h0.set j (oi (some v))
         rw [outsL_set] at h1
         unfold tellTo; rw [ht]; exact h1
       clear ht hdv HZ1
       go_wp2
       generalize (w2.setCell ⟨g, d, none⟩ (.int .i64 (-1))).setCell ⟨g, j, none⟩ (.int .i64 (v : Int)) = W5 at *
       clear cd td cj tj
       go_loopw [15] (fun kv wr => ∃ k : Nat, k ≤ va.n ∧ kv = .int .i64 k ∧ Hid (OwnB wr w.heap.size (some ⟨gt, 0, none⟩) n n (takenL n (cutF f (vs j) k)) ∧ OwnZ wr lo (some ⟨g, 0, none⟩) c N (outsL N (tellTo N o1 j v)) ∧ But2 g g w wr)) (fun kv _ => va.n - (intOf kv).toNat)
       case atStart => exact ⟨0, Nat.zero_le _, rfl, HW⟩
       case round =>
        clear HW HQ2
        obtain ⟨k, hk, rfl, HQ⟩ := hrel
        have HBq : Hid (Below w0.heap.size w0 wr) := HD.out.1.trans ((HQ.out.2.2.below HL.out.1 HL.out.1 HL.out.2.2).mono HD.out.2.1)
        have k0' : (0 : Int) ≤ (k : Int) := by omega
        obtain ⟨_, x1, _, _, _⟩ := (HCU.out wr HBq.out).cells
        by_cases hlt : k < va.n
        ·
         have k1 : (k : Int) < (va.n : Int) := by omega
         obtain ⟨bk, of2, x, hVA, hbk, ⟨y0, _, _, _⟩, hxv, hxn⟩ := (HCU.out wr HBq.out).ts k hlt
         rw [hVA] at x1
         have hkl : k < (vs j).length := by rw [← HKL.out]; exact hlt
         have HST := Lib.hid (cutF_step (f := f) hkl)
         obtain ⟨u, hu⟩ : ∃ u, u = nth (vs j) k := ⟨_, rfl⟩
         rw [← hu] at hxv hxn HST
         rw [hxv] at y0
         have u0 : (0 : Int) ≤ (u : Int) := by omega
         have u1 : (u : Int) < (n : Int) := by omega
         have ct := HQ.out.1.cell hxn (takenL_get hxn)
         have tt := HQ.out.1.thaw u
         have HQ3 : Hid (OwnB (wr.setCell ⟨gt, u, none⟩ (.bool true)) w.heap.size (some ⟨gt, 0, none⟩) n n (takenL n (cutF f (vs j) (k + 1))) ∧ OwnZ (wr.setCell ⟨gt, u, none⟩ (.bool true)) lo (some ⟨g, 0, none⟩) c N (outsL N (tellTo N o1 j v)) ∧ But2 g g w (wr.setCell ⟨gt, u, none⟩ (.bool true))) := by
          obtain ⟨q1, q2, q3⟩ := HQ.out
          refine ⟨?_, q2.grown (set_growZ wr gt u _) (fun ad e => by injection e with e; subst e; intro q; injection q with q; exact HGT.out.1 q.symm), q3.new HGT.out.2 _ _⟩
          have h1 := q1.set u true
          rw [takenL_set, HST.out] at h1
          exact h1
         clear hu hVA hkl HQ HBq
         go_wp2
         go_roundw
         case rel => exact ⟨k + 1, by omega, by go_num, HQ3⟩
         case measure => simp [intOf]; omega
        ·
         have k1 : ¬ (k : Int) < (va.n : Int) := by omega
         have HQ3 : Hid (OwnB wr w.heap.size (some ⟨gt, 0, none⟩) n n (takenL n (fun u => f u && !(vs j).contains u)) ∧ OwnZ wr lo (some ⟨g, 0, none⟩) c N (outsL N (tellTo N o1 j v)) ∧ But2 g g w wr) := by
          have h1 := HQ.out
          rw [cutF_all f (by rw [← HKL.out]; omega)] at h1
          exact h1
         clear HQ HBq HK HV HP2
         go_wp2
         go_roundg gk
         case measure => omega
         case rel => exact ⟨_, tellTo N o1 j v, _, rfl, HN.out _ rfl, HQ3⟩
end Go.Proofs.Ytjbhhccklfddaaa
