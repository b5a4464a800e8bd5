/-
  How strong a variable is, by the document.
-/
import Derived.Test.YtjbhhccklfddaaaVRWk
namespace Go.Proofs.Ytjbhhccklfddaaa
set_option maxRecDepth 20000
open Go.RowKit
set_option maxHeartbeats 6400000 in
theorem rwalk_c {w0 : World} {n N : Nat} {A : Option Addr} {cA : Nat} {ps : List (Cv × List Tv)} {vs : Nat → List Nat} {s : Nat → Nat} (hS : Sys w0 n N A ps vs s) (hB : Bridge N vs) {o : Nat → Option Nat} (hC : Cho N vs o) (OA : Option Addr) (oc : Nat) :
  ∀
   (k : Nat) (S : List Nat) (v : Nat) (w : World), Pth N vs o S v → N ≤ k + S.length → Below w0.heap.size w0 w → ZRow w OA N (outsL N o) → v < n →
   Calls Try.prog 35 #[.slice A N cA, .slice OA N oc, .int .i64 (v : Int)] w fun e w' => e = .returned (.int .i64 (wkF N vs s o k v : Nat)) ∧ Below w.heap.size w w' := by
 intro k
 induction k with
 |
  zero =>
  intro S v w hP hk hb0 hO hv
  have hn : tel N o v = none := by
   cases g : tel N o v with
   | none => rfl
   | some i => have := hP.more hB hC (tel_of g).2; omega
  have HT := Lib.hid hn
  clear hP hk hb0 hn
  go_enter Try.func35, Try.ntmps35
  go_wp2_with fail
  refine (who_c OA oc v w hO hS.N9).mono ?_
  rintro e w1 ⟨rfl, hb⟩
  rw [HT.out, show oi none = -1 from rfl]
  have HB := Lib.hid hb
  clear hb
  go_wp2
  go_ret
  exact ⟨rfl, HB.out⟩
 |
  succ k ih =>
  intro S v w hP hk hb0 hO hv
  have HD := Lib.hid (And.intro hP (And.intro hk (And.intro hb0 hO)))
  clear hP hk hb0 hO
  go_enter Try.func35, Try.ntmps35
  go_wp2_with fail
  refine (who_c OA oc v w HD.out.2.2.2 hS.N9).mono ?_
  rintro e w1 ⟨rfl, hb⟩
  have HB := Lib.hid hb
  clear hb
  cases ht : tel N o v with
  |
   none =>
   have HE : Hid (wkF N vs s o (k + 1) v = 4) := by show _ = _; rw [wkF, ht]
   rw [show oi none = -1 from rfl]
   clear ht
   go_wp2
   go_ret
   exact ⟨by rw [HE.out]; rfl, HB.out⟩
  |
   some i =>
   obtain ⟨hiN, hiv⟩ := tel_of ht
   have N9 := hS.N9
   have HE : Hid (wkF N vs s o (k + 1) v = mxo v (s i) (vs i) (wkF N vs s o k)) := by show _ = _; rw [wkF, ht]
   rw [show oi (some i) = (i : Int) from rfl]
   have HI := Lib.hid hiv
   clear ht hiv
   have i0 : (0 : Int) ≤ (i : Int) := by omega
   have i1 : (i : Int) < (N : Int) := by omega
   have in0 : decide ((i : Int) < 0) = false := by simp
   have HB0 : Hid (Below w0.heap.size w0 w1) := HD.out.2.2.1.trans (HB.out.mono HD.out.2.2.1.size)
   obtain ⟨bb, off, va, hcu⟩ := hS.conU hiN
   have hca := hcu w1 HB0.out
   have HCU := Lib.hid hcu
   have HKL := Lib.hid hca.k
   have hA := hca.adr
   subst hA
   obtain ⟨x0, x1, _, _, _⟩ := hca.cells
   rw [hca.s] at x0
   have k9 := hca.k9
   have k0 : (0 : Int) ≤ (va.n : Int) := by omega
   clear hca hcu
   go_wp2
   clear x0 x1
   go_loopw [8, 9] (fun mv jv wr => ∃ j : Nat, j ≤ va.n ∧ jv = .int .i64 j ∧ mv = .int .i64 (mxo v (s i) ((vs i).take j) (wkF N vs s o k) : Nat) ∧ Hid (Below w.heap.size w wr)) (fun _ jv _ => va.n - (intOf jv).toNat)
   case atStart => exact ⟨0, Nat.zero_le _, rfl, rfl, HB⟩
   case round =>
    obtain ⟨j, hj, rfl, rfl, HR⟩ := hrel
    have j0 : (0 : Int) ≤ (j : Int) := by omega
    have HBr : Hid (Below w0.heap.size w0 wr) := HD.out.2.2.1.trans (HR.out.mono HD.out.2.2.1.size)
    obtain ⟨_, x1, _, _, _⟩ := (HCU.out wr HBr.out).cells
    by_cases hlt : j < va.n
    ·
     have j1 : (j : Int) < (va.n : Int) := by omega
     obtain ⟨bk, of2, x, hVA, hbk, ⟨y0, _, _, _⟩, hxv, hxn⟩ := (HCU.out wr HBr.out).ts j hlt
     rw [hVA] at x1
     have hjl : j < (vs i).length := by rw [← HKL.out]; exact hlt
     have htk : (vs i).take (j + 1) = (vs i).take j ++ [nth (vs i) j] := by rw [List.take_add_one, nth_get hjl]; rfl
     obtain ⟨u, hu⟩ : ∃ u, u = nth (vs i) j := ⟨_, rfl⟩
     have hum : u ∈ vs i := by rw [hu]; exact nth_mem hjl
     rw [← hu] at hxv hxn htk
     rw [hxv] at y0
     have HU : Hid (u ∈ vs i ∧ mxo v (s i) ((vs i).take (j + 1)) (wkF N vs s o k) = if u = v then mxo v (s i) ((vs i).take j) (wkF N vs s o k) else max (mxo v (s i) ((vs i).take j) (wkF N vs s o k)) (wkF N vs s o k u)) := ⟨hum, by rw [htk, mxo_snoc]⟩
     clear hum hu htk hjl hVA
     obtain ⟨m, hm⟩ : ∃ m, m = mxo v (s i) ((vs i).take j) (wkF N vs s o k) := ⟨_, rfl⟩
     rw [← hm] at HU ⊢
     clear hm
     by_cases huv : u = v
     ·
      have e1 : (u : Int) = (v : Int) := by omega
      have HV : Hid (mxo v (s i) ((vs i).take (j + 1)) (wkF N vs s o k) = m) := by show _ = _; rw [HU.out.2, if_pos huv]
      clear huv
      go_wp2
      go_roundw
      case rel => exact ⟨j + 1, by omega, by go_num, by rw [HV.out], HR⟩
      case measure => simp [intOf]; omega
     ·
      have e1 : ¬ (u : Int) = (v : Int) := by omega
      have HV : Hid (mxo v (s i) ((vs i).take (j + 1)) (wkF N vs s o k) = max m (wkF N vs s o k u)) := by show _ = _; rw [HU.out.2, if_neg huv]
      have HP : Hid (Pth N vs o (i :: S) u) := HD.out.1.step hB hC HI.out HU.out.1 huv
      clear huv
      go_wp2_with fail
      refine (ih (i :: S) u wr HP.out (by have := HD.out.2.1; rw [List.length_cons]; omega) HBr.out (HD.out.2.2.2.below HR.out) hxn).mono ?_
      rintro ee w2 ⟨rfl, hb2⟩
      have HW3 : Hid (Below w.heap.size w w2) := HR.out.trans (hb2.mono HR.out.size)
      clear hb2
      obtain ⟨q, hq⟩ : ∃ q, q = wkF N vs s o k u := ⟨_, rfl⟩
      rw [← hq] at HV ⊢
      clear hq y0 x1
      go_wp2
      go_roundw
      case rel => exact ⟨j + 1, by omega, by go_num, by rw [HV.out]; simp; omega, HW3⟩
      case measure => simp [intOf]; omega
    ·
     have j1 : ¬ (j : Int) < (va.n : Int) := by omega
     have e : (vs i).take j = vs i := List.take_of_length_le (by rw [← HKL.out]; omega)
     rw [e, ← HE.out]
     clear e
     go_wp2
     go_ret
     exact ⟨rfl, HR.out⟩
end Go.Proofs.Ytjbhhccklfddaaa
