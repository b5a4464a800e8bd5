/-
  How strong a variable is, by the program.
  The weakest of a constraint's variables that are free, by the program.
-/
import Derived.Test.YtjbhhccklfddaaaVDlA
import Derived.Great.Ranges
namespace Go.Proofs.Ytjbhhccklfddaaa
set_option maxRecDepth 20000
open Go.RowKit
set_option maxHeartbeats 6400000 in
theorem strength_c {w0 : World} {n N : Nat} {A : Option Addr} {cA : Nat} {ps : List (Cv × List Tv)} {vs : Nat → List Nat} {s : Nat → Nat} (hS : Sys w0 n N A ps vs s) (hB : Bridge N vs) {o : Nat → Option Nat} (hC : Cho N vs o) :
  ∀
   (k : Nat) (S : List Nat) (v b : Nat) (vo : Value) (w : World), Pth N vs o S v → N ≤ k + S.length → Below w0.heap.size w0 w → ChB w b (.slice A N cA) vo (tel N o) → v < n →
   Calls Try.prog 34 #[.pointer (some ⟨b, 0, none⟩), .int .i64 (v : Int)] w fun e w' => e = .returned (.int .i64 (wkF N vs s o k v : Nat)) ∧ Below w.heap.size w w' := by
 intro k
 induction k with
 |
  zero =>
  intro S v b vo w hP hk hb0 hb hv
  have hn : tel N o v = none := by
   cases g : tel N o v with
   | none => rfl
   | some i => have := hP.more hB hC (tel_of g).2; omega
  have hv64 : v < 64 := by have := hS.n64; omega
  have c0 := hb.cellT hv64
  rw [hn] at c0
  have c1 : w.cell? ⟨b, 2 + v, none⟩ = some (.int .i64 (-1)) := c0
  clear c0
  have v0 : (0 : Int) ≤ (v : Int) := by omega
  have v1 : (v : Int) < 64 := by omega
  clear hP hk hb0 hb
  go_enter Try.func34, Try.ntmps34
  go_wp2
  go_ret
  exact ⟨rfl, Below.refl _ _⟩
 |
  succ k ih =>
  intro S v b vo w hP hk hb0 hb hv
  have hv64 : v < 64 := by have := hS.n64; omega
  have c0 := hb.cellT hv64
  have v0 : (0 : Int) ≤ (v : Int) := by omega
  have v1 : (v : Int) < 64 := by omega
  have HD := Lib.hid (And.intro hP (And.intro hk (And.intro hb0 hb)))
  clear hP hk hb0 hb
  cases ht : tel N o v with
  |
   none =>
   have c1 : w.cell? ⟨b, 2 + v, none⟩ = some (.int .i64 (-1)) := by rw [c0, ht]; rfl
   have e : wkF N vs s o (k + 1) v = 4 := by rw [wkF, ht]
   rw [e]
   clear c0 ht e HD
   go_enter Try.func34, Try.ntmps34
   go_wp2
   go_ret
   exact ⟨rfl, Below.refl _ _⟩
  |
   some i =>
   have c1 : w.cell? ⟨b, 2 + v, none⟩ = some (.int .i64 (i : Int)) := by rw [c0, ht]; rfl
   obtain ⟨hiN, hiv⟩ := tel_of ht
   have N9 := hS.N9
   have e : wkF N vs s o (k + 1) v = mxo v (s i) (vs i) (wkF N vs s o k) := by rw [wkF, ht]
   rw [e]
   have HI := Lib.hid (And.intro ht hiv)
   clear c0 ht e hiv
   have hcl := HD.out.2.2.2.cellL
   have i0 : (0 : Int) ≤ (i : Int) := by omega
   have i1 : (i : Int) < (N : Int) := by omega
   have ine : (i : Int) ≠ -1 := by omega
   obtain ⟨bb, off, va, hca⟩ := hS.con HD.out.2.2.1 hiN
   have HCA := Lib.hid hca
   have hA := hca.adr
   obtain ⟨x0, x1, _, _, _⟩ := hca.cells
   rw [hca.s] at x0
   have k9 := hca.k9
   have k0 : (0 : Int) ≤ (va.n : Int) := by omega
   rw [hA] at hcl
   clear hca hA
   go_enter Try.func34, Try.ntmps34
   go_wp2
   rw [show ((i : Int) == -1) = false from beq_eq_false_iff_ne.2 ine]
   go_loopw [6, 8, 34] (fun mv _ jv wr => ∃ j : Nat, j ≤ va.n ∧ jv = .int .i64 j ∧ mv = .int .i64 (mxo v (s i) ((vs i).take j) (wkF N vs s o k) : Nat) ∧ Hid (Below w.heap.size w wr)) (fun _ _ jv _ => va.n - (intOf jv).toNat)
   case atStart => exact ⟨0, Nat.zero_le _, rfl, rfl, Lib.hid (Below.refl _ _)⟩
   case round =>
    obtain ⟨j, hj, rfl, rfl, HR⟩ := hrel
    clear x0 x1 c1 hcl
    have j0 : (0 : Int) ≤ (j : Int) := by omega
    by_cases hlt : j < va.n
    ·
     have j1 : (j : Int) < (va.n : Int) := by omega
     have HB0 : Hid (Below w0.heap.size w0 wr) := HD.out.2.2.1.trans (HR.out.mono HD.out.2.2.1.size)
     obtain ⟨bk, of2, x, hVA, hbk, hx4, hxv, hxn⟩ := HCA.out.ts j hlt
     obtain ⟨y0, y1, y2, y3⟩ := hx4.keep (HR.out.block bk hbk)
     obtain ⟨z0, z1, z2, z3⟩ := At4.new wr x
     rw [hVA]
     have HW2 : Hid (∀ ob : Obj, Below w.heap.size w (wr.alloc ob)) := fun ob => HR.out.trans (((Below.refl wr.heap.size wr).alloc (Nat.le_refl _) ob).mono HR.out.size)
     have hjl : j < (vs i).length := by rw [← HCA.out.k]; exact hlt
     have htk : (vs i).take (j + 1) = (vs i).take j ++ [nth (vs i) j] := by rw [List.take_add_one, nth_get hjl]; rfl
     obtain ⟨u, hu⟩ : ∃ u, u = nth (vs i) j := ⟨_, rfl⟩
     have hum : u ∈ vs i := by rw [hu]; exact nth_mem hjl
     rw [← hu] at hxv hxn htk
     rw [hxv] at y0 z0
     have HU : Hid (u ∈ vs i ∧ mxo v (s i) ((vs i).take (j + 1)) (wkF N vs s o k) = if u = v then mxo v (s i) ((vs i).take j) (wkF N vs s o k) else max (mxo v (s i) ((vs i).take j) (wkF N vs s o k)) (wkF N vs s o k u)) := ⟨hum, by rw [htk, mxo_snoc]⟩
     clear hx4 hum hu htk hjl hVA
     obtain ⟨m, hm⟩ : ∃ m, m = mxo v (s i) ((vs i).take j) (wkF N vs s o k) := ⟨_, rfl⟩
     rw [← hm] at HU ⊢
     clear hm
     by_cases huv : u = v
     ·
      have e1 : (u : Int) = (v : Int) := by omega
      have HV : Hid (mxo v (s i) ((vs i).take (j + 1)) (wkF N vs s o k) = m) := by show _ = _; rw [HU.out.2, if_pos huv]
      clear huv
      go_wp2
      go_roundw
      case rel => exact ⟨j + 1, by omega, by go_num, by rw [HV.out], Lib.hid (HW2.out _)⟩
      case measure => simp [intOf]; omega
     ·
      have e1 : ¬ (u : Int) = (v : Int) := by omega
      have HV : Hid (mxo v (s i) ((vs i).take (j + 1)) (wkF N vs s o k) = max m (wkF N vs s o k u)) := by show _ = _; rw [HU.out.2, if_neg huv]
      have HP : Hid (Pth N vs o (i :: S) u) := HD.out.1.step hB hC HI.out.2 HU.out.1 huv
      clear huv
      go_wp2_with fail
      clear y0 y1 y2 y3
      refine (ih (i :: S) u b vo _ HP.out (by have := HD.out.2.1; rw [List.length_cons]; omega) (HD.out.2.2.1.trans ((HW2.out _).mono HD.out.2.2.1.size)) (HD.out.2.2.2.below (HW2.out _)) hxn).mono ?_
      rintro ee w2 ⟨rfl, hb2⟩
      have HW3 : Hid (Below w.heap.size w w2) := (HW2.out _).trans (hb2.mono (HW2.out _).size)
      clear hb2
      obtain ⟨q, hq⟩ : ∃ q, q = wkF N vs s o k u := ⟨_, rfl⟩
      rw [← hq] at HV ⊢
      clear hq z0 z1 z2 z3
      go_wp2
      go_roundw
      case rel => exact ⟨j + 1, by omega, by go_num, by rw [HV.out]; simp; omega, HW3⟩
      case measure => simp [intOf]; omega
    ·
     have j1 : ¬ (j : Int) < (va.n : Int) := by omega
     have e : (vs i).take j = vs i := List.take_of_length_le (by rw [← HCA.out.k]; omega)
     rw [e]
     clear e
     go_wp2
     go_ret
     exact ⟨rfl, HR.out⟩
end Go.Proofs.Ytjbhhccklfddaaa

namespace Go.Proofs.Ytjbhhccklfddaaa
set_option maxRecDepth 20000
open Go.RowKit
def frC (f : Nat → Bool) : Array Value := ((List.range 64).map fun v => .bool (f v)).toArray
theorem frC_size (f : Nat → Bool) : (frC f).size = 64 := by unfold frC; simp
theorem frC_get (f : Nat → Bool) {v : Nat} (h : v < 64) : (frC f)[v]? = some (.bool (f v)) := by
 unfold frC
 rw [List.getElem?_toArray, List.getElem?_map, List.getElem?_range h]
 rfl
theorem frC_one (f : Nat → Bool) : (frC f).all (·.oneCell') = true := by
 rw [Array.all_eq_true]
 intro i hi
 have h64 := frC_size f
 have := frC_get f (show i < 64 by omega)
 rw [Array.getElem?_eq_getElem hi] at this
 injection this with this
 rw [this]; rfl
theorem frC_congr {f g : Nat → Bool} (h : ∀ v, v < 64 → f v = g v) : frC f = frC g := by
 unfold frC
 congr 1
 exact List.map_congr_left fun v hv => by rw [h v (List.mem_range.1 hv)]
theorem frC_set (f : Nat → Bool) {v : Nat} (h : v < 64) (x : Bool) : (frC f).setIfInBounds v (.bool x) = frC fun u => if u = v then x else f u := by
 apply Array.ext_getElem?
 intro i
 rw [Array.getElem?_setIfInBounds, frC_size]
 by_cases e : v = i
 ·
  subst e
  rw [if_pos rfl, if_pos h, frC_get _ h, if_pos rfl]
 ·
  rw [if_neg e]
  rcases Nat.lt_or_ge i 64 with l | l
  · rw [frC_get _ l, frC_get _ l, if_neg (fun k => e k.symm)]
  · rw [Array.getElem?_eq_none (by rw [frC_size]; exact l), Array.getElem?_eq_none (by rw [frC_size]; exact l)]
def FrB (w : World) (b : Nat) (f : Nat → Bool) : Prop := w.heap[b]? = some (.cells (frC f) 61 (0, 0))
section
variable {w w' : World} {b : Nat} {f : Nat → Bool}
theorem FrB.lt (h : FrB w b f) : b < w.heap.size := (Array.getElem?_eq_some_iff.1 h).1
theorem FrB.below (h : FrB w b f) (hb : Below w.heap.size w w') : FrB w' b f := (hb.block b h.lt).trans h
theorem FrB.cell (h : FrB w b f) {v : Nat} (hv : v < 64) : w.cell? ⟨b, v, none⟩ = some (.bool (f v)) := by rw [cell_of_row _ _ v _ _ _ h]; exact frC_get _ hv
theorem FrB.thaw (h : FrB w b f) (j : Nat) : w.frozen? ⟨b, j, none⟩ = false := by
 have h' : w.heap[b]? = some (.cells (frC f) 61 (0, 0)) := h
 simp [World.frozen?, h']
theorem FrB.set (h : FrB w b f) {v : Nat} (hv : v < 64) (x : Bool) : FrB (w.setCell ⟨b, v, none⟩ (.bool x)) b fun u => if u = v then x else f u := by
 have h' : w.heap[b]? = some (.cells (frC f) 61 (0, 0)) := h
 show (w.heap.modify b _)[b]? = _
 rw [Array.getElem?_modify, if_pos rfl, h', ← frC_set _ hv]; rfl
theorem FrB.new (w : World) (f : Nat → Bool) : FrB (w.alloc (.cells (frC f) 61)) w.heap.size f := heap_alloc_new w _
end
set_option maxHeartbeats 6400000 in
theorem weakest_c {w0 : World} {n N : Nat} {A : Option Addr} {cA : Nat} {ps : List (Cv × List Tv)} {vs : Nat → List Nat} {s : Nat → Nat} (hS : Sys w0 n N A ps vs s) (hB : Bridge N vs) {o : Nat → Option Nat} (hC : Cho N vs o)
  (i b : Nat) (vo : Value) (f : Nat → Bool) (w : World) (hb0 : Below w0.heap.size w0 w) (hb : ChB w b (.slice A N cA) vo (tel N o)) (hi : i < N) :
  Calls Try.prog 36 #[.pointer (some ⟨b, 0, none⟩), .int .i64 (i : Int), .agg (frC f)] w fun e w' => e = .returned (.int .i64 (oi (pickW (wk N vs s o) f (vs i) (s i)).1)) ∧ Below w.heap.size w w' := by
 have N9 := hS.N9
 have HD := Lib.hid (And.intro hb0 hb)
 have hcl := hb.cellL
 have i0 : (0 : Int) ≤ (i : Int) := by omega
 have i1 : (i : Int) < (N : Int) := by omega
 obtain ⟨bb, off, va, hca⟩ := hS.con hb0 hi
 have HCA := Lib.hid hca
 have hA := hca.adr
 have k9 := hca.k9
 have k0 : (0 : Int) ≤ (va.n : Int) := by omega
 rw [hA] at hcl
 have HF := FrB.new w f
 have HW : Hid (Below w.heap.size w (w.alloc (.cells (frC f) 61))) := (Below.refl _ _).alloc (Nat.le_refl _) _
 have hsz : Hid ((frC f).size = 64) := frC_size f
 clear hb0 hb hA
 go_enter Try.func36, Try.ntmps36
 go_wp2_with (refine wpList_boxTo rfl _ _ rfl _ rfl _ rfl (frC f) rfl ?_)
 generalize hW0 : w.alloc (.cells (frC f) 61) = W at *
 obtain ⟨F, hFd⟩ : ∃ F, F = w.heap.size := ⟨_, rfl⟩
 rw [← hFd] at HF
 rw [← hFd]
 have HFR : Hid (FrB W F f) := HF
 have hcl' := (World.cell?_of_block (HW.out.block b (ChB.lt HD.out.2))).trans hcl
 obtain ⟨x0, x1, _, _, _⟩ := hca.cells.keep (HW.out.block bb hca.lt)
 rw [hca.s] at x0
 clear hcl hW0 HF hFd hca hsz
 go_region_held3 (fun w' => w'.cell? ⟨b, 0, none⟩ = some (.slice (some ⟨bb, off, none⟩) N cA) ∧ w'.cell? ⟨bb, off + i * 5, none⟩ = some (.int .i64 (s i : Int))) (go_keep) (fail)
 clear hcl' x0 x1
 have HW2 : Hid (Below w.heap.size w W.drew ∧ FrB W.drew F f) := ⟨HW.out.drew, HFR.out⟩
 generalize W.drew = W2 at *
 have hcl' := (World.cell?_of_block (HW2.out.1.block b (ChB.lt HD.out.2))).trans (ChB.cellL HD.out.2)
 rw [HCA.out.adr] at hcl'
 obtain ⟨_, x1, _, _, _⟩ := HCA.out.cells.keep (HW2.out.1.block bb HCA.out.lt)
 go_wp2
 clear hcl' x1
 go_loopw [7, 8, 10, 11, 29] (fun pv qv _ _ jv wr => ∃ j : Nat, j ≤ va.n ∧ jv = .int .i64 j ∧ pv = .int .i64 (oi (pickW (wk N vs s o) f ((vs i).take j) (s i)).1) ∧ qv = .int .i64 ((pickW (wk N vs s o) f ((vs i).take j) (s i)).2 : Nat) ∧ Hid (Below w.heap.size w wr ∧ FrB wr F f)) (fun _ _ _ _ jv _ => va.n - (intOf jv).toNat)
 case atStart => exact ⟨0, Nat.zero_le _, rfl, rfl, rfl, HW2⟩
 case round =>
  clear HW HW2
  obtain ⟨j, hj, rfl, rfl, rfl, HR⟩ := hrel
  have j0 : (0 : Int) ≤ (j : Int) := by omega
  by_cases hlt : j < va.n
  ·
   have j1 : (j : Int) < (va.n : Int) := by omega
   obtain ⟨bk, of2, x, hVA, hbk, hx4, hxv, hxn⟩ := HCA.out.ts j hlt
   obtain ⟨y0, y1, y2, y3⟩ := hx4.keep (HR.out.1.block bk hbk)
   obtain ⟨z0, z1, z2, z3⟩ := At4.new wr x
   rw [hVA]
   have HA : Hid (∀ ob : Obj, Below wr.heap.size wr (wr.alloc ob)) := fun ob => (Below.refl wr.heap.size wr).alloc (Nat.le_refl _) ob
   have hjl : j < (vs i).length := by rw [← HCA.out.k]; exact hlt
   have htk : (vs i).take (j + 1) = (vs i).take j ++ [nth (vs i) j] := by rw [List.take_add_one, nth_get hjl]; rfl
   obtain ⟨u, hu⟩ : ∃ u, u = nth (vs i) j := ⟨_, rfl⟩
   rw [← hu] at hxv hxn htk
   rw [hxv] at y0 z0
   have HU : Hid (pickW (wk N vs s o) f ((vs i).take (j + 1)) (s i) = if f u = true ∧ (pickW (wk N vs s o) f ((vs i).take j) (s i)).2 < wk N vs s o u then (some u, wk N vs s o u) else pickW (wk N vs s o) f ((vs i).take j) (s i)) := by show _ = _; rw [htk, pickW_snoc]
   clear hx4 hu htk hjl hVA
   obtain ⟨p, hp⟩ : ∃ p, p = pickW (wk N vs s o) f ((vs i).take j) (s i) := ⟨_, rfl⟩
   rw [← hp] at HU ⊢
   clear hp
   obtain ⟨k, hk⟩ : ∃ k, k = wk N vs s o u := ⟨_, rfl⟩
   have HK := Lib.hid hk
   rw [← hk] at HU
   have u0 : (0 : Int) ≤ (u : Int) := by omega
   have u1 : (u : Int) < 64 := by have := hS.n64; omega
   have u64 : u < 64 := by omega
   go_wp2_with fail
   clear y0 y1 y2 y3 hk
   refine (strength_c hS hB hC N [] u b vo _ (Pth.start ..) (by simp) (HD.out.1.trans ((HR.out.1.trans ((HA.out _).mono HR.out.1.size)).mono HD.out.1.size)) (HD.out.2.below (HR.out.1.trans ((HA.out _).mono HR.out.1.size))) hxn).mono ?_
   rintro ee w2 ⟨rfl, hb2⟩
   have e1 : wkF N vs s o N u = k := HK.out.symm
   rw [e1]
   have hkk := hb2.block wr.heap.size (by simp)
   replace z0 := (World.cell?_of_block hkk).trans z0
   have HR2 : Hid (Below w.heap.size w w2 ∧ FrB w2 F f) := by
    have h1 : Below w.heap.size w w2 := (HR.out.1.trans ((HA.out _).mono HR.out.1.size)).trans (hb2.mono (by have := HR.out.1.size; simp; omega))
    exact ⟨h1, (HR.out.2.below (HA.out _)).below hb2⟩
   clear hb2 z1 z2 z3 hkk HR e1
   have cf := HR2.out.2.cell u64
   by_cases hf : f u = true
   ·
    rw [hf] at cf
    by_cases hq : p.2 < k
    ·
     have q1 : (p.2 : Int) < (k : Int) := by omega
     have e2 : pickW (wk N vs s o) f ((vs i).take (j + 1)) (s i) = (some u, k) := by rw [HU.out, if_pos ⟨hf, hq⟩]
     have HE := Lib.hid e2
     clear hf hq e2
     go_wp2
     go_roundw
     case rel => exact ⟨j + 1, by omega, by go_num, by rw [HE.out]; rfl, by rw [HE.out], HR2⟩
     case measure => simp [intOf]; omega
    ·
     have q1 : ¬ (p.2 : Int) < (k : Int) := by omega
     have e2 : pickW (wk N vs s o) f ((vs i).take (j + 1)) (s i) = p := by rw [HU.out, if_neg (fun g => hq g.2)]
     have HE := Lib.hid e2
     clear hf hq e2
     go_wp2
     go_roundw
     case rel => exact ⟨j + 1, by omega, by go_num, by rw [HE.out], by rw [HE.out], HR2⟩
     case measure => simp [intOf]; omega
   ·
    have hf' : f u = false := by cases e : f u with | false => rfl | true => exact absurd e hf
    rw [hf'] at cf
    have e2 : pickW (wk N vs s o) f ((vs i).take (j + 1)) (s i) = p := by rw [HU.out, if_neg (fun g => hf g.1)]
    have HE := Lib.hid e2
    clear hf hf' e2
    go_wp2
    go_roundw
    case rel => exact ⟨j + 1, by omega, by go_num, by rw [HE.out], by rw [HE.out], HR2⟩
    case measure => simp [intOf]; omega
  ·
   have j1 : ¬ (j : Int) < (va.n : Int) := by omega
   have e : (vs i).take j = vs i := List.take_of_length_le (by rw [← HCA.out.k]; omega)
   rw [e]
   clear e
   go_wp2
   go_ret
   exact ⟨rfl, HR.out.1⟩
end Go.Proofs.Ytjbhhccklfddaaa
