/-
  What is free at first; a constraint tells a variable.
  A constraint is enforced, by the program.
-/
import Derived.Test.YtjbhhccklfddaaaVDlC
import Derived.Deep.WholeRow
namespace Go.Proofs.Ytjbhhccklfddaaa
set_option maxRecDepth 20000
open Go.RowKit
theorem Try.info61 : (Try.prog.info? 61).map (fun i => (i.zero, i.size)) = some (some (.agg (Array.replicate 64 (.bool false))), 64) := by kernel_rfl
theorem frC_false : frC (fun _ => false) = Array.replicate 64 (.bool false) := by kernel_rfl
theorem Try.size61 : (Try.prog.info? 61).map (·.size) = some 64 := by kernel_rfl
theorem wpl_allocF {ops : Array Oper} {rest : List Oper} {o : Oper} {a : Act} {w : World} {Q : Exit → Act → World → Prop} (hg : o.guard = none) (ho : o.op = .alloc 61)
  (h : wpList Try.prog ops Q rest (a.put o.dst (.pointer (some ⟨w.heap.size, 0, none⟩))) (w.alloc (.cells (frC fun _ => false) 61))) : wpList Try.prog ops Q (o :: rest) a w := by
 refine wpList_plain hg fun K hK => ?_
 have hz := (zero_of_info Try.info61).1
 unfold Oper.wp execOp
 simp only [ho, Instr.alloc, Sem.run_bind, hz, Result.andThen_ok, newVar, newRow, run_newObj_alloc, Sem.run_pure]
 rw [Oper.upon_value, show (Value.agg (Array.replicate 64 (.bool false))).cells = frC fun _ => false from frC_false.symm]
 exact hK _ _ h
theorem set_at {w : World} {B b : Nat} (hB : B ≤ b) (j : Nat) (x : Value) {w0 : World} (h : Below B w0 w) : Below B w0 (w.setCell ⟨b, j, none⟩ x) := h.trans ((Below.refl B w).setCell hB x)
theorem setRow_below {w : World} {B b : Nat} (hB : B ≤ b) (c : Array Value) : Below B w (w.setRow b c) := ⟨rfl, rfl, rfl, by simp, fun k hk => setRow_other w b k c (by omega)⟩
set_option maxHeartbeats 3200000 in
theorem everything_c (w : World) : Calls Try.prog 37 #[] w fun e w' => e = .returned (.agg (frC allF)) ∧ Below w.heap.size w w' := by
 go_enter Try.func37, Try.ntmps37
 go_wp2_with (refine wpl_allocF rfl rfl ?_)
 have H0 : Hid (FrB ((w.alloc (.cells (frC fun _ => false) 61)).alloc (.cells (frC fun _ => false) 61)) w.heap.size (fun _ => false) ∧ FrB ((w.alloc (.cells (frC fun _ => false) 61)).alloc (.cells (frC fun _ => false) 61)) (w.heap.size + 1) (fun _ => false) ∧ Below w.heap.size w ((w.alloc (.cells (frC fun _ => false) 61)).alloc (.cells (frC fun _ => false) 61))) := by
  refine ⟨(FrB.new w _).below ((Below.refl _ _).alloc (Nat.le_refl _) _), ?_, ((Below.refl _ _).alloc (Nat.le_refl _) _).alloc (by simp) _⟩
  have := FrB.new (w.alloc (.cells (frC fun _ => false) 61)) (fun _ => false)
  have e : (w.alloc (.cells (frC fun _ => false) 61)).heap.size = w.heap.size + 1 := by simp
  rw [e] at this
  exact this
 generalize (w.alloc (.cells (frC fun _ => false) 61)).alloc (.cells (frC fun _ => false) 61) = W at *
 obtain ⟨F, hFd⟩ : ∃ F, F = w.heap.size := ⟨_, rfl⟩
 have HFd := Lib.hid hFd
 rw [← hFd] at H0 ⊢
 clear hFd
 go_loopw [2, 3] (fun _ iv wr => ∃ k : Nat, k ≤ 64 ∧ iv = .int .i64 k ∧ Hid (FrB wr F (fun _ => false) ∧ FrB wr (F + 1) (fun v => decide (v < k)) ∧ Below F w wr)) (fun _ iv _ => 64 - (intOf iv).toNat)
 case atStart => exact ⟨0, by omega, rfl, Lib.hid ⟨H0.out.1, by have := H0.out.2.1; simpa using this, H0.out.2.2⟩⟩
 case round =>
  clear H0
  obtain ⟨k, hk, rfl, H0⟩ := hrel
  have k0 : (0 : Int) ≤ (k : Int) := by omega
  by_cases hlt : k < 64
  ·
   have k1 : (k : Int) < 64 := by omega
   have c0 := H0.out.2.1.cell hlt
   have t0 := H0.out.2.1.thaw k
   have H1 : Hid (FrB (wr.setCell ⟨F + 1, k, none⟩ (.bool true)) F (fun _ => false) ∧ FrB (wr.setCell ⟨F + 1, k, none⟩ (.bool true)) (F + 1) (fun v => decide (v < k + 1)) ∧ Below F w (wr.setCell ⟨F + 1, k, none⟩ (.bool true))) := by
    refine ⟨?_, ?_, set_at (by omega) _ _ H0.out.2.2⟩
    · exact (heap_setCell_other wr ⟨F + 1, k, none⟩ F _ (by simp)).trans H0.out.1
    ·
     have h1 := H0.out.2.1.set hlt true
     have e : (frC fun u => if u = k then true else decide (u < k)) = frC fun v => decide (v < k + 1) := frC_congr fun v _ => by
      by_cases g : v = k
      · rw [if_pos g]; simp [g]
      ·
       rw [if_neg g]
       by_cases l : v < k
       · simp [l]; omega
       · simp [l]; omega
     have h2 : FrB (wr.setCell ⟨F + 1, k, none⟩ (.bool true)) (F + 1) (fun u => if u = k then true else decide (u < k)) := h1
     unfold FrB at h2 ⊢
     rw [e] at h2
     exact h2
   go_wp2
   go_roundw
   case rel => exact ⟨k + 1, by omega, by go_num, H1⟩
   case measure => simp [intOf]; omega
  ·
   have k1 : ¬ (k : Int) < 64 := by omega
   have e : frC (fun v => decide (v < k)) = frC allF := frC_congr fun v hv => by show decide (v < k) = true; simp; omega
   have HL : wr.heap[F + 1]? = some (.cells (frC allF) 61 (0, 0)) := by rw [← e]; exact H0.out.2.1
   have HS : wr.heap[F]? = some (.cells (frC fun _ => false) 61 (0, 0)) := H0.out.1
   have HL' := Lib.hid HL
   have HS' := Lib.hid HS
   have HB := Lib.hid H0.out.2.2
   clear e HL HS H0
   go_wp2_with (first
    | (refine wpList_load_row rfl 61 _ rfl (F + 1) rfl 61 (frC allF) (0, 0) _ HL'.out Try.underlying61 rfl (by rw [frC_size]; exact Try.size61) ?_)
    | (refine wpList_store_row rfl 61 _ _ rfl F (frC allF) rfl rfl 61 (frC fun _ => false) HS'.out (by rw [frC_size]; exact Try.size61) (by rw [frC_size, frC_size]) (frC_one _) ?_))
   have hfin := setRow_heap wr F _ (frC allF) _ _ HS'.out
   refine bodyPost_ret (v := .agg (frC allF)) ?_ rfl ⟨rfl, ?_⟩
   · exact results_cell_row Try.results37 _ _ F 61 (frC allF) (0, 0) _ rfl hfin Try.underlying61 rfl (by rw [frC_size]; exact Try.size61)
   ·
    rw [← HFd.out]
    exact HB.out.trans (setRow_below (Nat.le_refl _) _)
def outsL (N : Nat) (o : Nat → Option Nat) : List Int := (List.range N).map fun i => oi (o i)
theorem outsL_len (N : Nat) (o : Nat → Option Nat) : (outsL N o).length = N := by unfold outsL; simp
theorem outsL_zt {N : Nat} {o : Nat → Option Nat} {i : Nat} (h : i < N) : zt (outsL N o) i = oi (o i) := by
 rw [zt_eq, outsL, List.getElem?_map, List.getElem?_range h]; rfl
theorem outsL_set {N : Nat} {o : Nat → Option Nat} {i : Nat} (x : Option Nat) : (outsL N o).set i (oi x) = outsL N (upd o i x) := by
 apply List.ext_getElem?
 intro j
 rw [List.getElem?_set, outsL_len]
 unfold outsL
 rw [List.getElem?_map, List.getElem?_map]
 by_cases e : i = j
 ·
  subst e
  rw [if_pos rfl]
  by_cases l : i < N
  · rw [if_pos l, List.getElem?_range l]; simp [upd]
  · rw [if_neg l, List.getElem?_eq_none (by simp; omega)]; rfl
 ·
  rw [if_neg e]
  by_cases l : j < N
  · rw [List.getElem?_range l]; simp [upd, Ne.symm e]
  · rw [List.getElem?_eq_none (by simp; omega)]; rfl
theorem outsL_inj {N : Nat} {o p : Nat → Option Nat} (ho : ∀ i, N ≤ i → o i = none) (hp : ∀ i, N ≤ i → p i = none) (h : outsL N o = outsL N p) : o = p := by
 funext i
 by_cases l : i < N
 ·
  have := outsL_zt (o := o) l
  rw [h, outsL_zt l] at this
  exact (oi_inj this).symm
 · rw [ho i (by omega), hp i (by omega)]
structure ChM (w : World) (lo b : Nat) (vl : Value) (g c N : Nat) (o : Nat → Option Nat) : Prop where
 blk : ChB w b vl (.slice (some ⟨g, 0, none⟩) N c) (tel N o)
 row : OwnZ w lo (some ⟨g, 0, none⟩) c N (outsL N o)
 lo : lo ≤ b
 ne : b ≠ g
theorem ChM.below {w w' : World} {lo b g c N : Nat} {vl : Value} {o : Nat → Option Nat} (h : ChM w lo b vl g c N o) (hb : Below w.heap.size w w') : ChM w' lo b vl g c N o := ⟨h.blk.below hb, h.row.below hb, h.lo, h.ne⟩
theorem set_growZ (w : World) (b j : Nat) (x : Value) : w.grownBy (w.setCell ⟨b, j, none⟩ x) (some b) :=
 ⟨rfl, rfl, rfl, by simp [World.setCell], fun k _ hk => heap_setCell_other w ⟨b, j, none⟩ k x (fun e => hk (by simp [e]))⟩
theorem keep_set {w : World} {g i b j : Nat} {x : Value} (hne : b ≠ g) : (w.setCell ⟨g, i, none⟩ x).drew.cell? ⟨b, j, none⟩ = w.cell? ⟨b, j, none⟩ := World.cell?_of_block (heap_setCell_other w ⟨g, i, none⟩ b x (fun e => hne e))
theorem keep_set2 {w : World} {g i b v : Nat} {x y : Value} (hne : b ≠ g) : ((w.setCell ⟨g, i, none⟩ x).setCell ⟨b, 2 + v, none⟩ y).drew.cell? ⟨b, 1, none⟩ = w.cell? ⟨b, 1, none⟩ :=
 (World.cell?_setCell_other _ _ _ _ (fun e => by injection e with _ e; omega)).trans (keep_set hne)
theorem tel_told {N : Nat} {vs : Nat → List Nat} {o : Nat → Option Nat} (hC : Cho N vs o) {i v : Nat} (hi : i < N) (hv : v ∈ vs i) (h0 : o i = none) : (fun u => if u = v then some i else tel N o u) = tel N (tellTo N o i v) := by
 funext u
 by_cases h : u = v
 · subst h; rw [if_pos rfl, (hC.tellTo hi hv).tel tellTo_self]
 · rw [if_neg h, tel_tellTo hC hi hv h0 h]
structure But2 (b g : Nat) (w w' : World) : Prop where
 os : w'.os = w.os
 tape : w'.tape = w.tape
 output : w'.output = w.output
 size : w.heap.size ≤ w'.heap.size
 block : ∀ k, k < w.heap.size → k ≠ b → k ≠ g → w'.heap[k]? = w.heap[k]?
theorem But2.of {b g : Nat} {w w' : World} (h : Below w.heap.size w w') : But2 b g w w' := ⟨h.os, h.tape, h.output, h.size, fun k hk _ _ => h.block k hk⟩
theorem But2.trans {b g : Nat} {w w' w'' : World} (h : But2 b g w w') (k : But2 b g w' w'') : But2 b g w w'' := ⟨k.os.trans h.os, k.tape.trans h.tape, k.output.trans h.output, Nat.le_trans h.size k.size, fun i hi h1 h2 => (k.block i (Nat.lt_of_lt_of_le hi h.size) h1 h2).trans (h.block i hi h1 h2)⟩
theorem But2.below {b g lo : Nat} {w w' : World} (h : But2 b g w w') (hb : lo ≤ b) (hg : lo ≤ g) (hl : lo ≤ w.heap.size) : Below lo w w' := ⟨h.os, h.tape, h.output, h.size, fun k hk => h.block k (by omega) (by omega) (by omega)⟩
theorem But2.set {b g k : Nat} {w0 w : World} (h : But2 b g w0 w) (hk : k = b ∨ k = g) (j : Nat) (x : Value) : But2 b g w0 (w.setCell ⟨k, j, none⟩ x) :=
 h.trans ⟨rfl, rfl, rfl, by simp [World.setCell], fun i _ h1 h2 => heap_setCell_other w ⟨k, j, none⟩ i x (fun e => by rcases hk with rfl | rfl; exact h1 e; exact h2 e)⟩
theorem But2.drew {b g : Nat} {w0 w : World} (h : But2 b g w0 w) : But2 b g w0 w.drew := h.trans ⟨rfl, rfl, rfl, Nat.le_refl _, fun _ _ _ _ => rfl⟩
theorem But2.new {b g k : Nat} {w0 w : World} (h : But2 b g w0 w) (hk : w0.heap.size ≤ k) (j : Nat) (x : Value) : But2 b g w0 (w.setCell ⟨k, j, none⟩ x) :=
 ⟨h.os, h.tape, h.output, by have := h.size; simp [World.setCell]; omega, fun i hi h1 h2 => (heap_setCell_other w ⟨k, j, none⟩ i x (fun e => by have : i = k := e; omega)).trans (h.block i hi h1 h2)⟩
theorem But2.next {b g : Nat} {w0 w w' : World} (h : But2 b g w0 w) (hb : Below w.heap.size w w') : But2 b g w0 w' := h.trans (But2.of hb)
theorem told_m {w : World} {lo b g c N i v : Nat} {vl : Value} {vs : Nat → List Nat} {o o1 : Nat → Option Nat} (hC : Cho N vs o) (hi : i < N) (hv : v ∈ vs i) (h64 : v < 64) (h0 : o i = none) (e1 : tellTo N o i v = upd o1 i (some v))
  (hb : ChB w b vl (.slice (some ⟨g, 0, none⟩) N c) (tel N o)) (hr : OwnZ w lo (some ⟨g, 0, none⟩) c N (outsL N o1)) (hlo : lo ≤ b) (hne : b ≠ g) :
  ChM ((w.setCell ⟨g, i, none⟩ (.int .i64 (v : Int))).setCell ⟨b, 2 + v, none⟩ (.int .i64 (i : Int))).drew lo b vl g c N (tellTo N o i v) ∧ But2 b g w ((w.setCell ⟨g, i, none⟩ (.int .i64 (v : Int))).setCell ⟨b, 2 + v, none⟩ (.int .i64 (i : Int))).drew := by
 refine ⟨⟨?_, ?_, hlo, hne⟩, (((But2.of (Below.refl _ _)).set (.inr rfl) _ _).set (.inl rfl) _ _).drew⟩
 ·
  have h1 : ChB (w.setCell ⟨g, i, none⟩ (.int .i64 (v : Int))) b vl (.slice (some ⟨g, 0, none⟩) N c) (tel N o) := (heap_setCell_other w ⟨g, i, none⟩ b _ (fun e => hne e)).trans hb
  have h2 := h1.set h64 (some i)
  rw [tel_told hC hi hv h0] at h2
  exact h2
 ·
  have h1 := hr.set i (v : Int)
  have e2 : (outsL N o1).set i (v : Int) = outsL N (tellTo N o i v) := by rw [e1, ← outsL_set]; rfl
  rw [e2] at h1
  exact ((h1.grown (set_growZ _ b (2 + v) _) (fun ad e => by injection e with e; subst e; intro k; injection k with k; exact hne k.symm))).drew
set_option maxHeartbeats 6400000 in
theorem tell_c {n N : Nat} {vs : Nat → List Nat} {o : Nat → Option Nat} (hC : Cho N vs o) (lo i v b g c : Nat) (vl : Value) (w : World) (hc : ChM w lo b vl g c N o) (hi : i < N) (hv : v ∈ vs i) (hn : v < n) (h64 : n ≤ 64) (h0 : o i = none) :
  Calls Try.prog 45 #[.pointer (some ⟨b, 0, none⟩), .int .i64 (i : Int), .int .i64 (v : Int)] w fun e w' => e = .returned (.tuple #[]) ∧ ChM w' lo b vl g c N (tellTo N o i v) ∧ But2 b g w w' := by
 have v64 : v < 64 := by omega
 have v0 : (0 : Int) ≤ (v : Int) := by omega
 have v1 : (v : Int) < 64 := by omega
 have i0 : (0 : Int) ≤ (i : Int) := by omega
 have i1 : (i : Int) < (N : Int) := by omega
 have c1 := hc.blk.cellO
 have ct := hc.blk.cellT v64
 have HC := Lib.hid hc
 obtain ⟨lg, lg2⟩ := hc.row.lt
 have hne := hc.ne
 go_enter Try.func45, Try.ntmps45
 cases ht : tel N o v with
 |
  none =>
  rw [ht] at ct
  have ct' : w.cell? ⟨b, 2 + v, none⟩ = some (.int .i64 (-1)) := ct
  clear ct
  have tg := hc.row.thaw i
  have cg := hc.row.cell hi
  have tb := hc.blk.thaw (2 + v)
  have HF := Lib.hid (told_m hC hi hv v64 h0 (o1 := o) (by unfold tellTo; rw [ht]) hc.blk hc.row hc.lo hne)
  clear hc HC
  go_wp2
  go_region_held3 (fun w' => w'.cell? ⟨b, 1, none⟩ = some (.slice (some ⟨g, 0, none⟩) N c)) (first | exact (keep_set hne).trans c1 | exact (keep_set2 hne).trans c1 | go_keep) (fail)
  (try simp only [Exit.inBlock, Exit.then])
  refine bodyPost_end (v := .tuple #[]) (by simp [results, go_sem, Try.results45]) rfl ?_
  exact ⟨rfl, HF.out⟩
 |
  some d =>
  rw [ht] at ct
  have ct' : w.cell? ⟨b, 2 + v, none⟩ = some (.int .i64 (d : Int)) := ct
  clear ct
  obtain ⟨hd, hdv⟩ := tel_of ht
  have d0 : (0 : Int) ≤ (d : Int) := by omega
  have d1 : (d : Int) < (N : Int) := by omega
  have dne : (d : Int) ≠ -1 := by omega
  have tg := hc.row.thaw d
  have cg := hc.row.cell hd
  have hr1 := hc.row.set d (-1)
  have e1 : (outsL N o).set d (-1) = outsL N (upd o d none) := outsL_set none
  rw [e1] at hr1
  have hb1 : ChB (w.setCell ⟨g, d, none⟩ (.int .i64 (-1))) b vl (.slice (some ⟨g, 0, none⟩) N c) (tel N o) := (heap_setCell_other w ⟨g, d, none⟩ b _ (fun e => hne e)).trans hc.blk
  have HB1 : Hid (But2 b g w (w.setCell ⟨g, d, none⟩ (.int .i64 (-1)))) := (But2.of (Below.refl _ _)).set (.inr rfl) _ _
  have hlo := hc.lo
  clear hc HC
  go_wp2
  clear c1 ct' tg cg
  generalize w.setCell ⟨g, d, none⟩ (.int .i64 (-1)) = w at *
  have c1 := hb1.cellO
  have tg := hr1.thaw i
  have cg := hr1.cell hi
  have tb := hb1.thaw (2 + v)
  have cb := hb1.cellT v64
  rw [ht] at cb
  have cb' : w.cell? ⟨b, 2 + v, none⟩ = some (.int .i64 (d : Int)) := cb
  clear cb
  have HF0 := told_m hC hi hv v64 h0 (o1 := upd o d none) (by unfold tellTo; rw [ht]) hb1 hr1 hlo hne
  have HF := Lib.hid (And.intro HF0.1 (HB1.out.trans HF0.2))
  clear hr1 hb1 HF0 e1
  go_region_held3 (fun w' => w'.cell? ⟨b, 1, none⟩ = some (.slice (some ⟨g, 0, none⟩) N c)) (first | exact (keep_set hne).trans c1 | exact (keep_set2 hne).trans c1 | go_keep) (fail)
  (try simp only [Exit.inBlock, Exit.then])
  refine bodyPost_end (v := .tuple #[]) (by simp [results, go_sem, Try.results45]) rfl ?_
  exact ⟨rfl, HF.out⟩
end Go.Proofs.Ytjbhhccklfddaaa

namespace Go.Proofs.Ytjbhhccklfddaaa
set_option maxRecDepth 20000
open Go.RowKit
def Lnk (N : Nat) (o : Nat → Option Nat) (f : Nat → Bool) (S : List Nat) : Prop := S.Nodup ∧ ∀ e ∈ S, e < N ∧ ∃ t, o e = some t ∧ f t = false
theorem Lnk.len {N : Nat} {o : Nat → Option Nat} {f : Nat → Bool} {S : List Nat} (h : Lnk N o f S) : S.length ≤ N := nodup_len N S h.1 fun d hd => (h.2 d hd).1
theorem Lnk.step {N : Nat} {vs : Nat → List Nat} {o : Nat → Option Nat} (hC : Cho N vs o) {f : Nat → Bool} {S : List Nat} (h : Lnk N o f S) {i v : Nat} (hi : i < N) (hv : v ∈ vs i) (hf : f v = true) (h0 : o i = none) : Lnk N (tellTo N o i v) (fun u => f u && !(vs i).contains u) (i :: S) := by
 refine ⟨List.nodup_cons.2 ⟨fun e => ?_, h.1⟩, fun e he => ?_⟩
 ·
  obtain ⟨_, t, h1, _⟩ := h.2 i e
  rw [h0] at h1; cases h1
 ·
  rcases List.mem_cons.1 he with rfl | he
  ·
   refine ⟨hi, v, tellTo_self, ?_⟩
   show (f v && !(vs e).contains v) = false
   rw [List.contains_iff_mem.2 hv]; simp
  ·
   obtain ⟨h1, t, h2, h3⟩ := h.2 e he
   have hei : e ≠ i := fun k => by rw [k, h0] at h2; cases h2
   refine ⟨h1, t, ?_, by show (f t && _) = false; rw [h3]; rfl⟩
   rw [tellTo_other hC hei, if_neg]
   · exact h2
   · rw [h2]; intro k; injection k with k; subst k; rw [hf] at h3; cases h3
structure EnfI (N : Nat) (vs : Nat → List Nat) (s : Nat → Nat) (o0 : Nat → Option Nat) (i0 g : Nat) (x : Option Nat) (o : Nat → Option Nat) (f : Nat → Bool) : Prop where
 cho : Cho N vs o
 fin : x = none → Enf N vs s o0 allF i0 o
 go : ∀ i, x = some i → i < N ∧ o i = none ∧ (∀ o', Enf N vs s o f i o' → Enf N vs s o0 allF i0 o') ∧ ∃ S, Lnk N o f S ∧ N < g + S.length
def cutF (f : Nat → Bool) (l : List Nat) (j : Nat) : Nat → Bool := fun u => f u && !(l.take j).contains u
theorem cutF_zero (f : Nat → Bool) (l : List Nat) : cutF f l 0 = f := by funext u; simp [cutF]
theorem cutF_step {f : Nat → Bool} {l : List Nat} {j : Nat} (h : j < l.length) : (fun u => if u = nth l j then false else cutF f l j u) = cutF f l (j + 1) := by
 funext u
 have e : l.take (j + 1) = l.take j ++ [nth l j] := by rw [List.take_add_one, nth_get h]; rfl
 unfold cutF
 rw [e]
 by_cases g : u = nth l j
 · rw [if_pos g]; simp [g]
 · rw [if_neg g]; simp [g]
theorem cutF_all (f : Nat → Bool) {l : List Nat} {j : Nat} (h : l.length ≤ j) : cutF f l j = fun u => f u && !l.contains u := by
 unfold cutF; rw [List.take_of_length_le h]
theorem ChM.put {w : World} {lo b g c N F : Nat} {vl : Value} {o : Nat → Option Nat} (h : ChM w lo b vl g c N o) (hb : F ≠ b) (hg : F ≠ g) (j : Nat) (x : Value) : ChM (w.setCell ⟨F, j, none⟩ x) lo b vl g c N o := by
 refine ⟨(heap_setCell_other w ⟨F, j, none⟩ b _ (fun e => hb e.symm)).trans h.blk, h.row.grown (set_growZ w F j x) (fun ad e => ?_), h.lo, h.ne⟩
 injection e with e; subst e; intro k; injection k with k; exact hg k.symm
theorem ChM.lt {w : World} {lo b g c N : Nat} {vl : Value} {o : Nat → Option Nat} (h : ChM w lo b vl g c N o) : b < w.heap.size ∧ g < w.heap.size ∧ lo ≤ g := ⟨h.blk.lt, h.row.lt.2, h.row.lt.1⟩
set_option maxHeartbeats 6400000 in
theorem enforce_c {w0 : World} {n N : Nat} {A : Option Addr} {cA : Nat} {ps : List (Cv × List Tv)} {vs : Nat → List Nat} {s : Nat → Nat} (hS : Sys w0 n N A ps vs s) (hB : Bridge N vs) {o : Nat → Option Nat} (hC : Cho N vs o)
  (lo i b g c : Nat) (w : World) (hb0 : Below w0.heap.size w0 w) (hlo : w0.heap.size ≤ lo) (hb : ChM w lo b (.slice A N cA) g c N o) (hi : i < N) (h0 : o i = none) :
  Calls Try.prog 50 #[.pointer (some ⟨b, 0, none⟩), .int .i64 (i : Int)] w fun e w' => e = .returned (.tuple #[]) ∧ ∃ o', Enf N vs s o allF i o' ∧ Cho N vs o' ∧ ChM w' lo b (.slice A N cA) g c N o' ∧ But2 b g w w' := by
 have N9 := hS.N9
 have n64 := hS.n64
 have HD := Lib.hid (And.intro hb0 (And.intro hlo hb))
 have HL : Hid (lo ≤ b ∧ lo ≤ g ∧ lo ≤ w.heap.size) := by have := hb.lt; have := hb.lo; show _ ∧ _ ∧ _; omega
 clear hb0 hlo hb
 go_enter Try.func50, Try.ntmps50
 go_wp2_with fail
 refine (everything_c _).mono ?_
 rintro e w1 ⟨rfl, hb1⟩
 have H1 : Hid (ChM w1 lo b (.slice A N cA) g c N o ∧ Below w.heap.size w w1) := ⟨HD.out.2.2.below hb1, hb1⟩
 clear hb1
 go_wp2_with (first
  | (refine wpl_allocF rfl rfl ?_)
  | (refine wpList_store_row rfl 61 _ _ rfl w1.heap.size (frC allF) rfl rfl 61 (frC fun _ => false) (heap_alloc_new w1 _) (by rw [frC_size]; exact Try.size61) (by rw [frC_size, frC_size]) (frC_one _) ?_))
 have hW : FrB ((w1.alloc (.cells (frC fun _ => false) 61)).setRow w1.heap.size (frC allF)) w1.heap.size allF := setRow_heap _ _ _ _ _ _ (heap_alloc_new w1 _)
 have hWb : Below w1.heap.size w1 ((w1.alloc (.cells (frC fun _ => false) 61)).setRow w1.heap.size (frC allF)) := ((Below.refl _ _).alloc (Nat.le_refl _) _).trans (setRow_below (Nat.le_refl _) _)
 generalize (w1.alloc (.cells (frC fun _ => false) 61)).setRow w1.heap.size (frC allF) = W at *
 obtain ⟨F, hF⟩ : ∃ F, F = w1.heap.size := ⟨_, rfl⟩
 have HG : Hid (FrB W F allF ∧ ChM W lo b (.slice A N cA) g c N o ∧ But2 b g w W ∧ w.heap.size ≤ F ∧ F ≠ b ∧ F ≠ g) := by
  obtain ⟨h1, h2⟩ := H1.out
  obtain ⟨l1, l2, l3⟩ := h1.lt
  have lb := h1.lo
  rw [hF]
  have sz := h2.size
  refine ⟨hW, h1.below hWb, (But2.of h2).next hWb, by omega, by omega, by omega⟩
 rw [← hF]
 clear hW hWb hF H1
 have HE : Hid (EnfI N vs s o i (N + 1) (some i) o allF) := ⟨hC, fun e => (by cases e), fun j e => (by injection e with e; subst e; exact ⟨hi, h0, fun _ h => h, [], ⟨List.nodup_nil, fun _ h => absurd h List.not_mem_nil⟩, by simp⟩)⟩
 simp only [Act.put, List.setIfInBounds_toArray, List.set_cons_zero, List.set_cons_succ]
 go_loopg [1, 4] (N + 1) (fun gk s1 s4 wr => ∃ (x : Option Nat) (o1 : Nat → Option Nat) (f : Nat → Bool) (F : Nat), s1 = .int .i64 (oi x) ∧ s4 = .pointer (some ⟨F, 0, none⟩) ∧ Hid (EnfI N vs s o i gk x o1 f) ∧ Hid (FrB wr F f ∧ ChM wr lo b (.slice A N cA) g c N o1 ∧ But2 b g w wr ∧ w.heap.size ≤ F ∧ F ≠ b ∧ F ≠ g))
 case atStart => exact ⟨some i, o, allF, F, rfl, rfl, HE, HG⟩
 case round =>
  clear HE HG
  obtain ⟨x, o1, f, F1, rfl, rfl, HE, HG⟩ := hrel
  cases x with
  |
   none =>
   have e0 : oi none = -1 := rfl
   rw [e0]
   clear e0
   go_wp2
   refine bodyPost_end (results_none rfl _ _ _) rfl ?_
   exact ⟨rfl, o1, HE.out.fin rfl, HE.out.cho, HG.out.2.1, HG.out.2.2.1⟩
  |
   some j =>
   have e0 : oi (some j) = (j : Int) := rfl
   rw [e0]
   clear e0
   have jne : (j : Int) ≠ -1 := by omega
   obtain ⟨hj, hj0, hK, S, hL, hN⟩ := HE.out.go j rfl
   have hcho := HE.out.cho
   cases gk with
   | zero => exact absurd hL.len (by omega)
   | succ gk =>
   have HK := Lib.hid (And.intro hK (And.intro hL hN))
   clear hK hL hN HE
   have HFl := Lib.hid HG.out.1
   go_wp2_with (refine wpList_load_row rfl 61 _ rfl F1 rfl 61 (frC f) (0, 0) _ HFl.out Try.underlying61 rfl (by rw [frC_size]; exact Try.size61) ?_)
   have HB0 : Hid (Below w0.heap.size w0 wr) := HD.out.1.trans ((HG.out.2.2.1.below HL.out.1 HL.out.2.1 HL.out.2.2).mono HD.out.2.1)
   refine (weakest_c hS hB hcho j b _ f wr HB0.out HG.out.2.1.blk hj).mono ?_
   rintro ee w2 ⟨rfl, hb2⟩
   have H2 : Hid (FrB w2 F1 f ∧ ChM w2 lo b (.slice A N cA) g c N o1 ∧ But2 b g w w2 ∧ w.heap.size ≤ F1 ∧ F1 ≠ b ∧ F1 ≠ g) := by
    obtain ⟨h1, h2, h3, h4, h5, h6⟩ := HG.out
    exact ⟨h1.below hb2, h2.below hb2, h3.next hb2, h4, h5, h6⟩
   clear hb2 HG HFl HB0
   cases hp : (pickW (wk N vs s o1) f (vs j) (s j)).1 with
   |
    none =>
    have e0 : oi none = -1 := rfl
    rw [e0]
    have HP := Lib.hid hp
    clear e0 hp
    go_wp2
    refine bodyPost_ret (results_none rfl _ _ _) rfl ?_
    exact ⟨rfl, o1, HK.out.1 _ (.stop _ _ _ HP.out), hcho, H2.out.2.1, H2.out.2.2.1⟩
   |
    some v =>
    obtain ⟨hv, hfv, _⟩ := (pickW_spec _ _ _ _).2.2.2 v hp
    have hvn := hS.lt hj hv
    have HP := Lib.hid hp
    clear hp
    have e0 : oi (some v) = (v : Int) := rfl
    rw [e0]
    clear e0
    have v64 : v < 64 := by omega
    have v0 : (0 : Int) ≤ (v : Int) := by omega
    have v1 : (v : Int) < 64 := by omega
    have vne : (v : Int) ≠ -1 := by omega
    have ct := H2.out.2.1.blk.cellT v64
    go_wp2_with fail
    clear ct
    refine (tell_c hcho lo j v b g c _ w2 H2.out.2.1 hj hv hvn n64 hj0).mono ?_
    rintro ee w3 ⟨rfl, hm3, hb3⟩
    have H3 : Hid (FrB w3 F1 f ∧ ChM w3 lo b (.slice A N cA) g c N (tellTo N o1 j v) ∧ But2 b g w w3 ∧ w.heap.size ≤ F1 ∧ F1 ≠ b ∧ F1 ≠ g) := by
     obtain ⟨h1, h2, h3, h4, h5, h6⟩ := H2.out
     exact ⟨(hb3.block F1 h1.lt h5 h6).trans h1, hm3, h3.trans hb3, h4, h5, h6⟩
    have HV := Lib.hid (And.intro hv (And.intro hfv hj0))
    clear hm3 hb3 H2 hv hfv hj0
    have HB0 : Hid (Below w0.heap.size w0 w3) := HD.out.1.trans ((H3.out.2.2.1.below HL.out.1 HL.out.2.1 HL.out.2.2).mono HD.out.2.1)
    obtain ⟨bb, off, va, hcu⟩ := hS.conU hj
    have hca := hcu w3 HB0.out
    have HCU := Lib.hid hcu
    have HKL := Lib.hid hca.k
    clear hcu
    have hcl := H3.out.2.1.blk.cellL
    rw [hca.adr] at hcl
    obtain ⟨_, x1, _, _, _⟩ := hca.cells
    have k9 := hca.k9
    have k0 : (0 : Int) ≤ (va.n : Int) := by omega
    have j0 : (0 : Int) ≤ (j : Int) := by omega
    have j1 : (j : Int) < (N : Int) := by omega
    clear hca
    go_wp2
    clear hcl x1
    go_loopw [8, 37] (fun _ mv wr => ∃ m : Nat, m ≤ va.n ∧ mv = .int .i64 m ∧ Hid (FrB wr F1 (cutF f (vs j) m) ∧ ChM wr lo b (.slice A N cA) g c N (tellTo N o1 j v) ∧ But2 b g w wr)) (fun _ mv _ => va.n - (intOf mv).toNat)
    case atStart => exact ⟨0, Nat.zero_le _, rfl, Lib.hid ⟨by rw [cutF_zero]; exact H3.out.1, H3.out.2.1, H3.out.2.2.1⟩⟩
    case round =>
     have HL3 := Lib.hid H3.out.2.2.2
     clear H3 HB0
     obtain ⟨m, hm, rfl, HQ⟩ := hrel
     have m0 : (0 : Int) ≤ (m : Int) := by omega
     have HBq : Hid (Below w0.heap.size w0 wr) := HD.out.1.trans ((HQ.out.2.2.below HL.out.1 HL.out.2.1 HL.out.2.2).mono HD.out.2.1)
     by_cases hlt : m < va.n
     ·
      have m1 : (m : Int) < (va.n : Int) := by omega
      obtain ⟨bk, of2, x, hVA, hbk, ⟨y0, y1, y2, y3⟩, hxv, hxn⟩ := (HCU.out wr HBq.out).ts m hlt
      obtain ⟨z0, z1, z2, z3⟩ := At4.new wr x
      rw [hVA]
      have hml : m < (vs j).length := by rw [← HKL.out]; exact hlt
      have HST := Lib.hid (cutF_step (f := f) hml)
      obtain ⟨u, hu⟩ : ∃ u, u = nth (vs j) m := ⟨_, rfl⟩
      rw [← hu] at hxv hxn HST
      have u64 : u < 64 := by omega
      have u0 : (0 : Int) ≤ (u : Int) := by omega
      have u1 : (u : Int) < 64 := by omega
      clear hu hVA hml
      have HA : Hid (∀ ob : Obj, Below wr.heap.size wr (wr.alloc ob)) := fun ob => (Below.refl wr.heap.size wr).alloc (Nat.le_refl _) ob
      have cf := (HQ.out.1.below (HA.out (.cells #[.int .i64 x.v, .bool x.r.s, .slice x.r.A x.r.n x.r.c, .slice x.r.B x.r.m x.r.d] 40))).cell u64
      have tf := (HQ.out.1.below (HA.out (.cells #[.int .i64 x.v, .bool x.r.s, .slice x.r.A x.r.n x.r.c, .slice x.r.B x.r.m x.r.d] 40))).thaw u
      have HN : Hid (∀ ob : Obj, FrB ((wr.alloc ob).setCell ⟨F1, u, none⟩ (.bool false)) F1 (cutF f (vs j) (m + 1)) ∧ ChM ((wr.alloc ob).setCell ⟨F1, u, none⟩ (.bool false)) lo b (.slice A N cA) g c N (tellTo N o1 j v) ∧ But2 b g w ((wr.alloc ob).setCell ⟨F1, u, none⟩ (.bool false))) := fun ob => by
       obtain ⟨q1, q2, q3⟩ := HQ.out
       have hlq := q1.lt
       have hlo := HL3.out.1
       refine ⟨?_, (q2.below (HA.out ob)).put HL3.out.2.1 HL3.out.2.2 _ _, (q3.next (HA.out ob)).new HL3.out.1 _ _⟩
       have h1 := (q1.below (HA.out ob)).set u64 false
       rw [HST.out] at h1
       exact h1
      rw [hxv] at y0 z0 cf tf
      clear HQ HBq
      go_wp2
      go_roundw
      case rel => exact ⟨m + 1, by omega, by go_num, Lib.hid (HN.out _)⟩
      case measure => simp [intOf]; omega
     ·
      have m1 : ¬ (m : Int) < (va.n : Int) := by omega
      have HF2 : Hid (FrB wr F1 (fun u => f u && !(vs j).contains u)) := by
       have := HQ.out.1
       rw [cutF_all f (by rw [← HKL.out]; omega)] at this
       exact this
      have HFl := Lib.hid HF2.out
      obtain ⟨f2, hf2⟩ : ∃ f2, f2 = fun u => f u && !(vs j).contains u := ⟨_, rfl⟩
      rw [← hf2] at HF2 HFl
      have HF2e := Lib.hid hf2
      clear hf2
      go_wp2_with (first
       | (refine wpList_load_row rfl 61 _ rfl F1 rfl 61 (frC f2) (0, 0) _ HFl.out Try.underlying61 rfl (by rw [frC_size]; exact Try.size61) ?_)
       | (refine wpl_allocF rfl rfl ?_)
       | (refine wpList_store_row rfl 61 _ _ rfl wr.heap.size (frC f2) rfl rfl 61 (frC fun _ => false) (heap_alloc_new wr _) (by rw [frC_size]; exact Try.size61) (by rw [frC_size, frC_size]) (frC_one _) ?_))
      have HN : Hid (EnfI N vs s o i gk (tel N o1 v) (tellTo N o1 j v) f2) := by
       obtain ⟨k1, k2, k3⟩ := HK.out
       obtain ⟨v1, v2, v3⟩ := HV.out
       have hc2 := hcho.tellTo hj v1
       refine ⟨hc2, fun e => k1 _ (.took _ _ _ _ HP.out e), fun d e => ?_⟩
       obtain ⟨d1, d2⟩ := tel_of e
       have hdj : d ≠ j := fun q => by rw [q, v3] at d2; cases d2
       refine ⟨d1, by rw [tellTo_other hcho hdj, if_pos d2], fun o' ho => k1 _ (.push _ _ _ _ _ _ HP.out e (by rw [HF2e.out] at ho; exact ho)), j :: S, ?_, by rw [List.length_cons]; omega⟩
       rw [HF2e.out]
       exact k2.step hcho hj v1 v2 v3
      have HW : Hid (FrB ((wr.alloc (.cells (frC fun _ => false) 61)).setRow wr.heap.size (frC f2)) wr.heap.size f2 ∧ ChM ((wr.alloc (.cells (frC fun _ => false) 61)).setRow wr.heap.size (frC f2)) lo b (.slice A N cA) g c N (tellTo N o1 j v) ∧ But2 b g w ((wr.alloc (.cells (frC fun _ => false) 61)).setRow wr.heap.size (frC f2)) ∧ w.heap.size ≤ wr.heap.size ∧ wr.heap.size ≠ b ∧ wr.heap.size ≠ g) := by
       obtain ⟨q1, q2, q3⟩ := HQ.out
       have hWb : Below wr.heap.size wr ((wr.alloc (.cells (frC fun _ => false) 61)).setRow wr.heap.size (frC f2)) := ((Below.refl _ _).alloc (Nat.le_refl _) _).trans (setRow_below (Nat.le_refl _) _)
       obtain ⟨l1, l2, l3⟩ := q2.lt
       have lb := q2.lo
       exact ⟨setRow_heap _ _ _ _ _ _ (heap_alloc_new wr _), q2.below hWb, q3.next hWb, q3.size, by omega, by omega⟩
      clear HQ HBq HFl HF2 HF2e HK HV HP
      generalize (wr.alloc (.cells (frC fun _ => false) 61)).setRow wr.heap.size (frC f2) = W9 at *
      go_roundg gk
      case measure => omega
      case rel => exact ⟨tel N o1 v, tellTo N o1 j v, f2, _, rfl, rfl, HN, HW⟩
end Go.Proofs.Ytjbhhccklfddaaa
