/-
  How many of each strength tell, by the law.
-/
import Derived.Test.YtjbhhccklfddaaaSDlO
import Derived.Test.YtjbhhccklfddaaaSDlS
namespace Go.Proofs.Ytjbhhccklfddaaa
set_option maxRecDepth 20000
open Go.RowKit
def lvC (f : Nat → Nat) : Array Value := ((List.range 5).map fun v => .int .i64 (f v : Int)).toArray
theorem lvC_size (f : Nat → Nat) : (lvC f).size = 5 := by unfold lvC; simp
theorem lvC_get (f : Nat → Nat) {v : Nat} (h : v < 5) : (lvC f)[v]? = some (.int .i64 (f v : Int)) := by
 unfold lvC
 rw [List.getElem?_toArray, List.getElem?_map, List.getElem?_range h]
 rfl
theorem lvC_one (f : Nat → Nat) : (lvC f).all (·.oneCell') = true := by
 rw [Array.all_eq_true]
 intro i hi
 have h64 := lvC_size f
 have := lvC_get f (show i < 5 by omega)
 rw [Array.getElem?_eq_getElem hi] at this
 injection this with this
 rw [this]; rfl
theorem lvC_set (f : Nat → Nat) {v : Nat} (h : v < 5) (x : Nat) : (lvC f).setIfInBounds v (.int .i64 (x : Int)) = lvC fun u => if u = v then x else f u := by
 apply Array.ext_getElem?
 intro i
 rw [Array.getElem?_setIfInBounds, lvC_size]
 by_cases e : v = i
 ·
  subst e
  rw [if_pos rfl, if_pos h, lvC_get _ h, if_pos rfl]
 ·
  rw [if_neg e]
  rcases Nat.lt_or_ge i 5 with l | l
  · rw [lvC_get _ l, lvC_get _ l, if_neg (fun k => e k.symm)]
  · rw [Array.getElem?_eq_none (by rw [lvC_size]; exact l), Array.getElem?_eq_none (by rw [lvC_size]; exact l)]
def LvB (w : World) (b : Nat) (f : Nat → Nat) : Prop := w.heap[b]? = some (.cells (lvC f) 33 (0, 0))
section
variable {w w' : World} {b : Nat} {f : Nat → Nat}
theorem LvB.lt (h : LvB w b f) : b < w.heap.size := (Array.getElem?_eq_some_iff.1 h).1
theorem LvB.below (h : LvB w b f) (hb : Below w.heap.size w w') : LvB w' b f := (hb.block b h.lt).trans h
theorem LvB.cell (h : LvB w b f) {v : Nat} (hv : v < 5) : w.cell? ⟨b, v, none⟩ = some (.int .i64 (f v : Int)) := by rw [cell_of_row _ _ v _ _ _ h]; exact lvC_get _ hv
theorem LvB.thaw (h : LvB w b f) (j : Nat) : w.frozen? ⟨b, j, none⟩ = false := by
 have h' : w.heap[b]? = some (.cells (lvC f) 33 (0, 0)) := h
 simp [World.frozen?, h']
theorem LvB.set (h : LvB w b f) {v : Nat} (hv : v < 5) (x : Nat) : LvB (w.setCell ⟨b, v, none⟩ (.int .i64 (x : Int))) b fun u => if u = v then x else f u := by
 have h' : w.heap[b]? = some (.cells (lvC f) 33 (0, 0)) := h
 show (w.heap.modify b _)[b]? = _
 rw [Array.getElem?_modify, if_pos rfl, h', ← lvC_set _ hv]; rfl
theorem LvB.new (w : World) (f : Nat → Nat) : LvB (w.alloc (.cells (lvC f) 33)) w.heap.size f := heap_alloc_new w _
end
theorem Try.info33 : (Try.prog.info? 33).map (fun i => (i.zero, i.size)) = some (some (.agg (Array.replicate 5 (.int .i64 0))), 5) := by kernel_rfl
theorem lvC_zero : lvC (fun _ => 0) = Array.replicate 5 (.int .i64 0) := by kernel_rfl
theorem Try.size33 : (Try.prog.info? 33).map (·.size) = some 5 := by kernel_rfl
theorem wpl_allocL {ops : Array Oper} {rest : List Oper} {o : Oper} {a : Act} {w : World} {Q : Exit → Act → World → Prop} (hg : o.guard = none) (ho : o.op = .alloc 33)
  (h : wpList Try.prog ops Q rest (a.put o.dst (.pointer (some ⟨w.heap.size, 0, none⟩))) (w.alloc (.cells (lvC fun _ => 0) 33))) : wpList Try.prog ops Q (o :: rest) a w := by
 refine wpList_plain hg fun K hK => ?_
 have hz := (zero_of_info Try.info33).1
 unfold Oper.wp execOp
 simp only [ho, Instr.alloc, Sem.run_bind, hz, Result.andThen_ok, newVar, newRow, run_newObj_alloc, Sem.run_pure]
 rw [Oper.upon_value, show (Value.agg (Array.replicate 5 (.int .i64 0))).cells = lvC fun _ => 0 from lvC_zero.symm]
 exact hK _ _ h
theorem lv_le (s : Nat → Nat) (o : Nat → Option Nat) (σ : Nat) : ∀ n, lv n s o σ ≤ n := by
 intro n
 unfold lv
 induction n with
 | zero => exact Nat.le_refl _
 | succ n ih => rw [sm]; split <;> (try split) <;> omega
theorem lv_some {s : Nat → Nat} {o : Nat → Option Nat} {n σ : Nat} (h : (o n).isSome = true) : lv (n + 1) s o σ = if σ = s n then lv n s o (s n) + 1 else lv n s o σ := by
 by_cases e : σ = s n
 · rw [if_pos e, e]; unfold lv; rw [sm, if_pos h, if_pos rfl]
 · rw [if_neg e]; unfold lv; rw [sm, if_pos h, if_neg (fun k => e k.symm)]; rfl
theorem lv_none {s : Nat → Nat} {o : Nat → Option Nat} {n σ : Nat} (h : o n = none) : lv (n + 1) s o σ = lv n s o σ := by
 unfold lv; rw [sm, if_neg (by rw [h]; exact fun k => Bool.noConfusion k)]; rfl
set_option maxHeartbeats 6400000 in
theorem levels_c {w0 : World} {n N : Nat} {A : Option Addr} {cA : Nat} {ps : List (Cv × List Tv)} {vs : Nat → List Nat} {s : Nat → Nat} (hS : Sys w0 n N A ps vs s) {o : Nat → Option Nat} (OA : Option Addr) (oc : Nat) (w : World) (hb0 : Below w0.heap.size w0 w) (hO : ZRow w OA N (outsL N o)) :
  Calls Try.prog 22 #[.slice A N cA, .slice OA N oc] w fun e w' => e = .returned (.agg (lvC (lv N s o))) ∧ Below w.heap.size w w' := by
 have N9 := hS.N9
 have N0 : (0 : Int) ≤ (N : Int) := by omega
 have HD := Lib.hid (And.intro hb0 hO)
 clear hb0 hO
 go_enter Try.func22, Try.ntmps22
 go_wp2_with (refine wpl_allocL rfl rfl ?_)
 have H0 : Hid (LvB ((w.alloc (.cells (lvC fun _ => 0) 33)).alloc (.cells (lvC fun _ => 0) 33)) w.heap.size (fun _ => 0) ∧ LvB ((w.alloc (.cells (lvC fun _ => 0) 33)).alloc (.cells (lvC fun _ => 0) 33)) (w.heap.size + 1) (lv 0 s o) ∧ Below w.heap.size w ((w.alloc (.cells (lvC fun _ => 0) 33)).alloc (.cells (lvC fun _ => 0) 33))) := by
  refine ⟨(LvB.new w _).below ((Below.refl _ _).alloc (Nat.le_refl _) _), ?_, ((Below.refl _ _).alloc (Nat.le_refl _) _).alloc (by simp) _⟩
  have := LvB.new (w.alloc (.cells (lvC fun _ => 0) 33)) (fun _ => 0)
  have e : (w.alloc (.cells (lvC fun _ => 0) 33)).heap.size = w.heap.size + 1 := by simp
  rw [e] at this
  exact this
 generalize (w.alloc (.cells (lvC fun _ => 0) 33)).alloc (.cells (lvC fun _ => 0) 33) = W at *
 obtain ⟨F, hFd⟩ : ∃ F, F = w.heap.size := ⟨_, rfl⟩
 have HFd := Lib.hid hFd
 rw [← hFd] at H0 ⊢
 clear hFd
 go_loopw [6] (fun iv wr => ∃ k : Nat, k ≤ N ∧ iv = .int .i64 k ∧ Hid (LvB wr F (fun _ => 0) ∧ LvB wr (F + 1) (lv k s o) ∧ Below F w wr)) (fun iv _ => N - (intOf iv).toNat)
 case atStart => exact ⟨0, by omega, rfl, H0⟩
 case round =>
  clear H0
  obtain ⟨k, hk, rfl, H0⟩ := hrel
  have k0 : (0 : Int) ≤ (k : Int) := by omega
  by_cases hlt : k < N
  ·
   have k1 : (k : Int) < (N : Int) := by omega
   have HBw : Hid (Below w.heap.size w wr) := by rw [← HFd.out]; exact H0.out.2.2
   have HB : Hid (Below w0.heap.size w0 wr) := HD.out.1.trans (HBw.out.mono HD.out.1.size)
   obtain ⟨bo, oo, hOA, _, hoc⟩ := (HD.out.2.below HBw.out).mem (by omega)
   have c0 := hoc k hlt
   rw [outsL_zt hlt] at c0
   subst hOA
   clear hoc
   cases hok : o k with
   |
    none =>
    rw [hok] at c0
    have c0' : wr.cell? ⟨bo, oo + k, none⟩ = some (.int .i64 (-1)) := c0
    have H1 : Hid (LvB wr F (fun _ => 0) ∧ LvB wr (F + 1) (lv (k + 1) s o) ∧ Below F w wr) := by
     have e : lv (k + 1) s o = lv k s o := funext fun σ => lv_none hok
     rw [e]; exact H0.out
    clear c0 hok
    go_wp2
    go_roundw
    case rel => exact ⟨k + 1, by omega, by go_num, H1⟩
    case measure => simp [intOf]; omega
   |
    some u =>
    rw [hok] at c0
    have c0' : wr.cell? ⟨bo, oo + k, none⟩ = some (.int .i64 (u : Int)) := c0
    have u0 : (0 : Int) ≤ (u : Int) := by omega
    obtain ⟨bb, off, va, hca⟩ := hS.con HB.out hlt
    have hA := hca.adr
    subst hA
    obtain ⟨x0, _, _, _, _⟩ := hca.cells
    rw [hca.s] at x0
    have s4 := hS.s4 k hlt
    obtain ⟨σ, hσ⟩ : ∃ σ, σ = s k := ⟨_, rfl⟩
    have s5 : σ < 5 := by omega
    have s0 : (0 : Int) ≤ (σ : Int) := by omega
    have s1 : (σ : Int) < 5 := by omega
    rw [← hσ] at x0
    have d0 := H0.out.2.1.cell s5
    have t0 := H0.out.2.1.thaw σ
    have q9 := lv_le s o σ k
    obtain ⟨q, hq⟩ : ∃ q, q = lv k s o σ := ⟨_, rfl⟩
    have H1 : Hid (LvB (wr.setCell ⟨F + 1, σ, none⟩ (.int .i64 ((q : Int) + 1))) F (fun _ => 0) ∧ LvB (wr.setCell ⟨F + 1, σ, none⟩ (.int .i64 ((q : Int) + 1))) (F + 1) (lv (k + 1) s o) ∧ Below F w (wr.setCell ⟨F + 1, σ, none⟩ (.int .i64 ((q : Int) + 1)))) := by
     refine ⟨?_, ?_, set_at (by omega) _ _ H0.out.2.2⟩
     · exact (heap_setCell_other wr ⟨F + 1, σ, none⟩ F _ (by simp)).trans H0.out.1
     ·
      have h1 := H0.out.2.1.set s5 (q + 1)
      have e : lv (k + 1) s o = fun v => if v = σ then q + 1 else lv k s o v := funext fun v => by
       rw [lv_some (by rw [hok]; rfl), hq, hσ]
      rw [e]
      have e2 : (((q + 1 : Nat) : Int)) = (q : Int) + 1 := by omega
      rw [e2] at h1
      exact h1
    rw [← hq] at d0 q9
    have q0 : (0 : Int) ≤ (q : Int) := by omega
    have q1 : (q : Int) ≤ 1000 := by omega
    clear c0 hok hσ hq hca
    go_wp2
    go_roundw
    case rel => exact ⟨k + 1, by omega, by go_num, H1⟩
    case measure => simp [intOf]; omega
  ·
   have k1 : ¬ (k : Int) < (N : Int) := by omega
   have e : k = N := by omega
   rw [e] at H0
   have HL : wr.heap[F + 1]? = some (.cells (lvC (lv N s o)) 33 (0, 0)) := H0.out.2.1
   have HS : wr.heap[F]? = some (.cells (lvC fun _ => 0) 33 (0, 0)) := H0.out.1
   have HL' := Lib.hid HL
   have HS' := Lib.hid HS
   have HB := Lib.hid H0.out.2.2
   clear e HL HS H0
   go_wp2_with (first
    | (refine wpList_load_row rfl 33 _ rfl (F + 1) rfl 33 (lvC (lv N s o)) (0, 0) _ HL'.out Try.underlying33 rfl (by rw [lvC_size]; exact Try.size33) ?_)
    | (refine wpList_store_row rfl 33 _ _ rfl F (lvC (lv N s o)) rfl rfl 33 (lvC fun _ => 0) HS'.out (by rw [lvC_size]; exact Try.size33) (by rw [lvC_size, lvC_size]) (lvC_one _) ?_))
   have hfin := setRow_heap wr F _ (lvC (lv N s o)) _ _ HS'.out
   refine bodyPost_ret (v := .agg (lvC (lv N s o))) ?_ rfl ⟨rfl, ?_⟩
   · exact results_cell_row Try.results22 _ _ F 33 (lvC (lv N s o)) (0, 0) _ rfl hfin Try.underlying33 rfl (by rw [lvC_size]; exact Try.size33)
   ·
    rw [← HFd.out]
    exact HB.out.trans (setRow_below (Nat.le_refl _) _)
end Go.Proofs.Ytjbhhccklfddaaa
