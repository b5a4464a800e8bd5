/-
  Rows of one number, so often, by the library.
  A choice of its own memory: its struct as a whole.
  A choice of its own memory, or none, by the program.
-/
import Derived.Test.YtjbhhccklfddaaaVDlG
import Derived.Laws.CopyOwn
import Derived.Lib.BitFns
import Derived.Deep.RegionLaw
import Derived.Test.YtjbhhccklfddaaaVRgn
import Derived.Test.YtjbhhccklfddaaaVDlL
namespace Go.Proofs.Ytjbhhccklfddaaa
set_option maxRecDepth 20000
open Go.RowKit
theorem and_small : ∀ N : Fin 20, bits BinOp.and IntKind.u64 ((N.val : Nat) : Int) 4294967295 = ((N.val : Nat) : Int) := by decide +kernel
set_option maxHeartbeats 3200000 in
theorem Mul64_one (N : Nat) (hN : N ≤ 19) (w : World) : Calls Try.prog 67 #[.int .u64 1, .int .u64 (N : Int)] w fun e w' => e = .returned (.tuple #[.int .u64 0, .int .u64 (N : Int)]) ∧ Below w.heap.size w w' := by
 have n0 : (0 : Int) ≤ (N : Int) := by omega
 have n1 : (N : Int) ≤ 19 := by omega
 have a1 : bits BinOp.and IntKind.u64 1 4294967295 = 1 := and_small 1
 have aN : bits BinOp.and IntKind.u64 (N : Int) 4294967295 = (N : Int) := and_small ⟨N, by omega⟩
 have a0 : bits BinOp.and IntKind.u64 0 4294967295 = 0 := and_small 0
 have d1 : (N : Int) / 4294967296 = 0 := by omega
 go_enter Try.func67, Try.ntmps67
 go_wp2
 refine bodyPost_ret (results_tmp2 rfl _ _ _) rfl ?_
 exact ⟨rfl, Below.refl _ _⟩
set_option maxHeartbeats 3200000 in
theorem Mul_one (N : Nat) (hN : N ≤ 19) (w : World) : Calls Try.prog 55 #[.int .u64 1, .int .u64 (N : Int)] w fun e w' => e = .returned (.tuple #[.int .u64 0, .int .u64 (N : Int)]) ∧ Below w.heap.size w w' := by
 go_enter Try.func55, Try.ntmps55
 go_wp2_with fail
 refine (Mul64_one N hN _).mono ?_
 rintro e w1 ⟨rfl, hb⟩
 have HB := Lib.hid hb
 clear hb
 go_wp2
 refine bodyPost_ret (results_tmp2 rfl _ _ _) rfl ?_
 exact ⟨rfl, HB.out⟩
def repC (k N : Nat) : List Value := List.replicate k (.int .i64 (-1)) ++ List.replicate (N - k) (.int .i64 0)
theorem repC_len {k N : Nat} (h : k ≤ N) : (repC k N).length = N := by unfold repC; simp; omega
theorem repC_get {k N j : Nat} (h : j < k) : (repC k N)[j]? = some (.int .i64 (-1)) := by
 unfold repC; rw [List.getElem?_append_left (by simpa using h)]; simp [h]
theorem repC_splice {k m N : Nat} (h : k + m ≤ N) : splice (repC k N) k (List.replicate m (.int .i64 (-1))) = repC (k + m) N := by
 unfold splice repC
 rw [List.take_append_of_le_length (by simp), List.take_of_length_le (by simp), List.length_replicate, List.drop_append, List.drop_of_length_le (by simp), List.nil_append, List.length_replicate, ← List.append_assoc, List.replicate_append_replicate, List.drop_replicate, show N - k - (k + m - k) = N - (k + m) by omega]
set_option maxHeartbeats 6400000 in
theorem Repeat_c (G : Nat) (N : Nat) (hN : N ≤ 19) (w : World) (hG : w.heap[G]? = some (.cells #[.int .i64 (-1)] 3 (0, 0))) : Calls Try.prog 42 #[.slice (some ⟨G, 0, none⟩) 1 1, .int .i64 (N : Int)] w fun e w' => ∃ g, e = .returned (.slice (some ⟨g, 0, none⟩) N N) ∧ OwnZ w' w.heap.size (some ⟨g, 0, none⟩) N N (List.replicate N (-1)) ∧ Below w.heap.size w w' := by
 obtain ⟨i0, hi, hz0, hz1, hz2⟩ := info_parts Try.info3
 have n0 : (0 : Int) ≤ (N : Int) := by omega
 have n1 : (N : Int) ≤ 19 := by omega
 have HG := Lib.hid hG
 clear hG
 go_enter Try.func42, Try.ntmps42
 go_wp2_with fail
 refine (Mul_one N hN _).mono ?_
 rintro e w1 ⟨rfl, hb⟩
 have HB := Lib.hid hb
 clear hb
 go_wp2_with (at_make; refine wpList_make_full _ rfl _ _ _ rfl w.heap.size 3 i0 (.int .i64 0) 1 Try.underlying23 hi hz0 hz1 .i64 .i64 _ _ N rfl rfl (by first | rfl | omega) (by first | rfl | omega) (by first | omega | (rw [hz2]; omega)) (by unfold maxLen; omega) HB.out.size ?_)
 intro w2 ho hg
 obtain ⟨g, hgd⟩ : ∃ g, g = w1.heap.size := ⟨_, rfl⟩
 have HC : Hid (w2.heap[g]? = some (.cells (repC 0 N).toArray 3 (0, 0)) ∧ Below w.heap.size w w2 ∧ w.heap.size ≤ g) := by
  refine ⟨?_, HB.out.trans ((below_of_grown hg).mono HB.out.size), by rw [hgd]; exact HB.out.size⟩
  rw [← hgd] at ho
  rcases ho.2 with ⟨h1, _⟩ | ⟨g', cap, cur, h1, _, h3, h4, _, h6, h7⟩
  · injection h1 with h1; cases h1
  ·
   injection h1 with h1 _ h1c
   injection h1 with h1
   injection h1 with h1
   subst h1 h1c
   have e : cur.toList = repC 0 N := by
    rw [← List.take_of_length_le (l := cur.toList) (i := N * 1) (by rw [Array.length_toList, h6]; exact Nat.le_refl _), h7, toList_madeCells_one]
    unfold repC; simp
   rw [h3, ← e]
 rw [← hgd]
 clear hgd ho hg HB
 have hsz1 := Try.size3
 go_wp2_with (refine wpList_copy_splice rfl (.tmp 31) (.tmp 32) 23 23 rfl 3 Try.underlying23 hsz1 (some ⟨g, 0, none⟩) (some ⟨G, 0, none⟩) N N 1 1 rfl rfl g 0 (repC 0 N) 3 HC.out.1 (List.replicate (min 1 N) (.int .i64 (-1))) (by simp; try omega) ?c1 (by rw [repC_len (by omega)]; simp; try omega) (fun v hv => by rw [(List.mem_replicate.1 hv).2]; rfl) w.heap.size w HC.out.2.1 HC.out.2.2 ?_)
 case c1 =>
  intro _ j v hv
  have hj := (List.getElem?_eq_some_iff.1 hv).1
  rw [List.length_replicate] at hj
  have : j = 0 := by omega
  subst this
  have e : v = .int .i64 (-1) := by
   have := List.mem_of_getElem? hv
   exact (List.mem_replicate.1 this).2
  rw [e]
  have hc : w2.heap[G]? = some (.cells #[.int .i64 (-1)] 3 (0, 0)) := (HC.out.2.1.block G (Array.getElem?_eq_some_iff.1 HG.out).1).trans HG.out
  rw [cell_of_row _ _ 0 _ _ _ hc]; rfl
 intro w3 hg3 hb3
 have HC3 : Hid (w3.heap[g]? = some (.cells (repC (min 1 N) N).toArray 3 (0, 0)) ∧ Below w.heap.size w w3 ∧ w.heap.size ≤ g) := by
  have h1 := hg3.out
  rw [repC_splice (by omega), Nat.zero_add] at h1
  exact ⟨h1, hb3, HC.out.2.2⟩
 clear hg3 hb3 HC
 go_wp2
 go_loopw [8] (fun kv wr => ∃ k : Nat, k ≤ N ∧ (0 < N → 0 < k) ∧ kv = .int .i64 k ∧ Hid (wr.heap[g]? = some (.cells (repC k N).toArray 3 (0, 0)) ∧ Below w.heap.size w wr ∧ w.heap.size ≤ g)) (fun kv _ => N - (intOf kv).toNat)
 case atStart => exact ⟨min 1 N, by omega, by omega, by go_num, HC3⟩
 case round =>
  clear HC3
  obtain ⟨k, hk, hk0, rfl, HC⟩ := hrel
  have k0 : (0 : Int) ≤ (k : Int) := by omega
  by_cases hlt : k < N
  ·
   have k1 : (k : Int) < (N : Int) := by omega
   have k2 : (k : Int) ≤ (N : Int) := by omega
   have k3 : ¬ k = N := by omega
   have k4 : ¬ N = k := by omega
   have wk : IntKind.i64.wrap ((k : Int) + ((min k (N - k) : Nat) : Int)) = ((k + min k (N - k) : Nat) : Int) := by rw [IntKind.wrap_i64] <;> omega
   have HCd : Hid (wr.drew.heap[g]? = some (.cells (repC k N).toArray 3 (0, 0)) ∧ Below w.heap.size w wr.drew ∧ w.heap.size ≤ g) := ⟨HC.out.1, HC.out.2.1.drew, HC.out.2.2⟩
   have HSRC : Hid (∀ j v, (List.replicate (min k (N - k)) (Value.int .i64 (-1)))[j]? = some v → wr.drew.cell? ((⟨g, 0, none⟩ : Addr).add j) = some v) := fun j v hv => by
    have hj := (List.getElem?_eq_some_iff.1 hv).1
    rw [List.length_replicate] at hj
    rw [(List.mem_replicate.1 (List.mem_of_getElem? hv)).2]
    have h1 := repC_get (k := k) (N := N) (j := j) (by omega)
    have hc : wr.drew.heap[g]? = some (.cells (repC k N).toArray 3 (0, 0)) := HCd.out.1
    have ea : (⟨g, 0, none⟩ : Addr).add j = ⟨g, j, none⟩ := by unfold Addr.add; split <;> simp_all
    rw [ea, cell_of_row _ _ j _ _ _ hc, List.getElem?_toArray]
    exact h1
   go_wp2_with fail
   refine wp_region_held_drew (S := fun _ => True) (by kernel_rfl) ?_ (fun hHeld => ?_)
   · exact True.intro
   refine tk (i := 0) (h := ?_)
   try simp only [zR]
   refine tk (i := 1) (h := ?_)
   try simp only [zR]
   refine tk (i := 2) (h := ?_)
   try simp only [zR]
   refine tk (i := 3) (h := ?_)
   try simp only [zR]
   refine tk (i := 4) (h := ?_)
   try simp only [zR]
   refine tk (i := 5) (h := ?_)
   try simp only [zR]
   refine tk (i := 6) (h := ?_)
   try simp only [zR]
   refine tr [7] ?_
   refine tc (h := fun K hK => ?_) (hs := tn)
   refine step_copy_splice rfl (.tmp 41) (.tmp 44) 23 23 rfl 3 Try.underlying23 hsz1 (some ⟨g, k, none⟩) (some ⟨g, 0, none⟩) (N - k) (N - k) k N rfl rfl g k (repC k N) 3 HCd.out.1 (List.replicate (min k (N - k)) (.int .i64 (-1))) (by simp) (fun _ => ⟨rfl, _, rfl, HSRC.out⟩) (by rw [repC_len hk]; simp; omega) (fun v hv => by rw [(List.mem_replicate.1 hv).2]; rfl) w.heap.size w HCd.out.2.1 HCd.out.2.2 ?_
   intro w4 hg4 hb4
   have HC4 : Hid (w4.heap[g]? = some (.cells (repC (k + min k (N - k)) N).toArray 3 (0, 0)) ∧ Below w.heap.size w w4 ∧ w.heap.size ≤ g) := ⟨by have h1 := hg4.out; rw [repC_splice (by omega)] at h1; exact h1, hb4, HCd.out.2.2⟩
   clear hg4 hb4
   try go_wp2_with fail
   refine hK.out _ _ ?_ (fun hHeld => ?_)
   · exact True.intro
   clear hK K
   try simp only [zR]
   refine tk (i := 8) (h := ?_)
   try simp only [zR]
   refine tk (i := 9) (h := ?_)
   try simp only [zR]
   refine wpAnyH_done (by kernel_rfl) ?_ _
   go_wp2
   go_roundw
   case rel => exact ⟨k + min k (N - k), by omega, by omega, by go_num, HC4⟩
   case measure => simp [intOf]; omega
  ·
   have k1 : ¬ (k : Int) < (N : Int) := by omega
   have e : k = N := by omega
   have HF : Hid (OwnZ wr w.heap.size (some ⟨g, 0, none⟩) N N (List.replicate N (-1)) ∧ Below w.heap.size w wr) := by
    obtain ⟨h1, h2, h3⟩ := HC.out
    rw [e] at h1
    refine ⟨⟨by simp, .inr ⟨g, N, _, rfl, h3, h1, Nat.le_refl _, by unfold maxLen; omega, by rw [List.size_toArray, repC_len (Nat.le_refl _), Nat.mul_one], ?_⟩⟩, h2⟩
    unfold repC
    simp [znum]
   clear HC e
   go_wp2
   go_ret
   exact ⟨g, rfl, HF.out.1, HF.out.2⟩
end Go.Proofs.Ytjbhhccklfddaaa

namespace Go.Proofs.Ytjbhhccklfddaaa
set_option maxRecDepth 20000
open Go.RowKit
theorem chC_congr {vl vo : Value} {t t' : Nat → Option Nat} (h : ∀ v, v < 64 → t v = t' v) : chC vl vo t = chC vl vo t' := by
 unfold chC
 congr 3
 exact List.map_congr_left fun v hv => by rw [h v (List.mem_range.1 hv)]
theorem ChB.congr {w : World} {b : Nat} {vl vo : Value} {t t' : Nat → Option Nat} (h : ChB w b vl vo t) (e : ∀ v, v < 64 → t v = t' v) : ChB w b vl vo t' := by
 unfold ChB at h ⊢
 rw [← chC_congr e]; exact h
theorem chC_one {vl vo : Value} {t : Nat → Option Nat} (hl : vl.oneCell' = true) (ho : vo.oneCell' = true) : (chC vl vo t).all (·.oneCell') = true := by
 rw [Array.all_eq_true_iff_forall_mem]
 intro x hx
 unfold chC at hx
 simp only [List.mem_toArray, List.mem_cons, List.mem_map] at hx
 rcases hx with rfl | rfl | ⟨_, _, rfl⟩
 · exact hl
 · exact ho
 · rfl
abbrev chZ : Array Value := chC (.slice none 0 0) (.slice none 0 0) fun _ => some 0
theorem Try.info49 : (Try.prog.info? 49).map (fun i => (i.zero, i.size)) = some (some (.agg chZ), 66) := by kernel_rfl
theorem Try.size49 : (Try.prog.info? 49).map (·.size) = some 66 := by kernel_rfl
theorem Try.built2 (A B : Option Addr) (n c m d : Nat) : Try.prog.built 49 [(0, .slice A n c), (1, .slice B m d)] = some (chC (.slice A n c) (.slice B m d) fun _ => some 0) := by kernel_rfl
theorem wpl_allocC {ops : Array Oper} {rest : List Oper} {o : Oper} {a : Act} {w : World} {Q : Exit → Act → World → Prop} (hg : o.guard = none) (ho : o.op = .alloc 49)
  (h : wpList Try.prog ops Q rest (a.put o.dst (.pointer (some ⟨w.heap.size, 0, none⟩))) (w.alloc (.cells chZ 49))) : wpList Try.prog ops Q (o :: rest) a w := by
 refine wpList_plain hg fun K hK => ?_
 have hz := (zero_of_info Try.info49).1
 unfold Oper.wp execOp
 simp only [ho, Instr.alloc, Sem.run_bind, hz, Result.andThen_ok, newVar, newRow, run_newObj_alloc, Sem.run_pure]
 rw [Oper.upon_value, show (Value.agg chZ).cells = chZ from rfl]
 exact hK _ _ h
theorem step_load_ch {ops : Array Oper} {o : Oper} {a : Act} {w : World} {K : Act → World → Prop} {Q : Exit → Act → World → Prop} {E : Prop} (hgd : o.guard = none) (x : Operand) (ho : o.op = .load 49 x)
  (g : Nat) (hx : a.eval x = .pointer (some ⟨g, 0, none⟩)) (vl vo : Value) (t : Nat → Option Nat) (hg : ChB w g vl vo t)
  (h : K (a.put o.dst (.agg (chC vl vo t))) w) : if Region.wanted o (yielded ops a.tmps) = true then Oper.wp Try.prog o a w K Q else E := by
 have hw : Region.wanted o (yielded ops a.tmps) = true := by simp [Region.wanted, hgd]
 rw [if_pos hw]
 exact wp_load_row 49 x ho g hx 49 _ (0, 0) _ hg Try.underlying49 rfl (by rw [chC_size]; exact Try.size49) h
theorem step_store_row {ops : Array Oper} {o : Oper} {a : Act} {w : World} {K : Act → World → Prop} {Q : Exit → Act → World → Prop} {E : Prop} (hgd : o.guard = none) (ty : TypeId) (x y : Operand) (ho : o.op = .store ty x y)
  (g : Nat) (cells : Array Value) (hx : a.eval x = .pointer (some ⟨g, 0, none⟩)) (hy : a.eval y = .agg cells)
  (t : TypeId) (old : Array Value) (hg : w.heap[g]? = some (.cells old t (0, 0))) (hi : (Try.prog.info? ty).map (·.size) = some cells.size)
  (hold : old.size = cells.size) (h1 : cells.all (·.oneCell') = true)
  (h : K (a.put o.dst undef) (w.setRow g cells)) : if Region.wanted o (yielded ops a.tmps) = true then Oper.wp Try.prog o a w K Q else E := by
 have hw : Region.wanted o (yielded ops a.tmps) = true := by simp [Region.wanted, hgd]
 rw [if_pos hw]
 exact wp_store_row ty x y ho g cells hx hy t old hg hi hold h1 h
end Go.Proofs.Ytjbhhccklfddaaa

namespace Go.Proofs.Ytjbhhccklfddaaa
set_option maxRecDepth 20000
open Go.RowKit
noncomputable def vsOf (w0 : World) (n : Nat) (ps : List (Cv × List Tv)) (i : Nat) : List Nat := (csOf w0 n ps).getD i []
def ssOf (ps : List (Cv × List Tv)) (i : Nat) : Nat := ((ps[i]?.map fun x => x.1.s.toNat)).getD 0
theorem vsOf_get {w0 : World} {n : Nat} {ps : List (Cv × List Tv)} {i : Nat} {x : Cv × List Tv} (hx : ps[i]? = some x) : vsOf w0 n ps i = vr w0 n x := by
 unfold vsOf csOf; rw [List.getD_eq_getElem?_getD, List.getElem?_map, hx]; rfl
structure May (w0 : World) (n : Int) (N : Nat) (ps : List (Cv × List Tv)) (m : Nat) (L : List Int) (o : Nat → Option Nat) : Prop where
 n1 : 1 ≤ n
 n64 : n ≤ 64
 len : m = N
 ok : ∀ x ∈ ps, IsS w0 x.1 x.2 n
 cho : Cho N (vsOf w0 n.toNat ps) o
 outs : L = outsL N o
 tree : failN n.toNat (csOf w0 n.toNat ps) = 0
structure Part (w0 : World) (n : Int) (N : Nat) (ps : List (Cv × List Tv)) (L : List Int) (k : Nat) (o : Nat → Option Nat) : Prop where
 ok : ∀ j x, j < k → ps[j]? = some x → IsS w0 x.1 x.2 n
 cho : Cho N (vsOf w0 n.toNat ps) o
 outs : ∀ j, j < k → zt L j = oi (o j)
 rest : ∀ j, k ≤ j → o j = none
theorem Part.start (w0 : World) (n : Int) (N : Nat) (ps : List (Cv × List Tv)) (L : List Int) : Part w0 n N ps L 0 fun _ => none :=
 ⟨fun _ _ h => absurd h (Nat.not_lt_zero _), ⟨fun _ _ _ h => (by cases h), fun _ _ _ _ _ h => (by cases h), fun _ _ => rfl⟩, fun _ h => absurd h (Nat.not_lt_zero _), fun _ _ => rfl⟩
theorem Part.of_may {w0 : World} {n : Int} {N m : Nat} {ps : List (Cv × List Tv)} {L : List Int} {k : Nat} {o p : Nat → Option Nat} (h : Part w0 n N ps L k o) (g : May w0 n N ps m L p) (hk : k ≤ N) : ∀ j, j < k → o j = p j := fun j hj => by
 apply oi_inj
 rw [← h.outs j hj, g.outs, outsL_zt (by omega)]
theorem Part.skip {w0 : World} {n : Int} {N : Nat} {ps : List (Cv × List Tv)} {L : List Int} {k : Nat} {o : Nat → Option Nat} (h : Part w0 n N ps L k o) {x : Cv × List Tv} (hx : ps[k]? = some x) (hs : IsS w0 x.1 x.2 n) (hL : zt L k = -1) : Part w0 n N ps L (k + 1) o :=
 ⟨fun j y hj hy => by
  by_cases e : j = k
  · subst e; rw [hx] at hy; injection hy with hy; rw [← hy]; exact hs
  · exact h.ok j y (by omega) hy, h.cho, fun j hj => by
  by_cases e : j = k
  · subst e; rw [hL, h.rest j (Nat.le_refl _)]; rfl
  · exact h.outs j (by omega), fun j hj => h.rest j (by omega)⟩
theorem Part.tell {w0 : World} {n : Int} {N : Nat} {ps : List (Cv × List Tv)} {L : List Int} {k u : Nat} {o : Nat → Option Nat} (h : Part w0 n N ps L k o) {x : Cv × List Tv} (hx : ps[k]? = some x) (hs : IsS w0 x.1 x.2 n) (hk : k < N) (hL : zt L k = (u : Int)) (hu : u ∈ vsOf w0 n.toNat ps k) (ht : tel N o u = none) : Part w0 n N ps L (k + 1) (tellTo N o k u) :=
 ⟨fun j y hj hy => by
  by_cases e : j = k
  · subst e; rw [hx] at hy; injection hy with hy; rw [← hy]; exact hs
  · exact h.ok j y (by omega) hy, h.cho.tellTo hk hu, fun j hj => by
  by_cases e : j = k
  · subst e; rw [tellTo_self, hL]; rfl
  · unfold tellTo; rw [ht]; simp only [upd, if_neg e]; exact h.outs j (by omega), fun j hj => by
  unfold tellTo; rw [ht]; simp only [upd, if_neg (show j ≠ k by omega)]; exact h.rest j (by omega)⟩
theorem Part.all {w0 : World} {n : Int} {N : Nat} {ps : List (Cv × List Tv)} {L : List Int} {o : Nat → Option Nat} (h : Part w0 n N ps L N o) (hl : ps.length = N) (hL : L.length = N) (h1 : 1 ≤ n) (h2 : n ≤ 64) (ht : failN n.toNat (csOf w0 n.toNat ps) = 0) : May w0 n N ps N L o :=
 ⟨h1, h2, rfl, fun x hx => by
  obtain ⟨j, hj, e⟩ := List.getElem_of_mem hx
  exact h.ok j x (by omega) (by rw [List.getElem?_eq_getElem hj, e]), h.cho, zt_ext (by rw [hL, outsL_len]) (fun j hj => by rw [h.outs j (by omega), outsL_zt (by omega)]), ht⟩
theorem Part.can {w0 : World} {n : Int} {N m : Nat} {ps : List (Cv × List Tv)} {L : List Int} {k : Nat} {o p : Nat → Option Nat} (h : Part w0 n N ps L k o) (g : May w0 n N ps m L p) (hk : k < N) (hL : zt L k ≠ -1) : ∃ u : Nat, u ∈ vsOf w0 n.toNat ps k ∧ zt L k = (u : Int) ∧ tel N o u = none := by
 have e := g.outs
 have e2 : zt L k = oi (p k) := by rw [e, outsL_zt hk]
 cases hp : p k with
 | none => rw [hp] at e2; exact absurd e2 hL
 |
  some u =>
  refine ⟨u, g.cho.mem k u hk hp, by rw [e2, hp]; rfl, tel_none.2 fun i hi ho => ?_⟩
  by_cases l : i < k
  ·
   have := h.of_may g (by omega) i l
   rw [ho] at this
   have := g.cho.inj i k u hi hk this.symm hp
   omega
  · rw [h.rest i (by omega)] at ho; cases ho
theorem May.sys {w0 : World} {n : Int} {N m : Nat} {A : Option Addr} {ps : List (Cv × List Tv)} {L : List Int} {o : Nat → Option Nat} (g : May w0 n N ps m L o) (hg : Gns w0 A N ps) : Sys w0 n.toNat N A ps (vsOf w0 n.toNat ps) (ssOf ps) := by
 have e : ((n.toNat : Nat) : Int) = n := by have := g.n1; omega
 refine ⟨hg, fun x hx => by rw [e]; exact g.ok x hx, by have := g.n64; omega, fun i x hx => ?_, fun i x hx => ?_⟩
 · rw [vsOf_get hx, vr_yes (by rw [e]; exact g.ok x (List.mem_of_getElem? hx))]
 · unfold ssOf; rw [hx]; rfl
theorem May.bridge {w0 : World} {n : Int} {N m : Nat} {A : Option Addr} {ps : List (Cv × List Tv)} {L : List Int} {o : Nat → Option Nat} (g : May w0 n N ps m L o) (hg : Gns w0 A N ps) : Bridge N (vsOf w0 n.toNat ps) := by
 have h := bridge_of (csOf_bnd w0 n.toNat ps) g.tree
 have hl : (csOf w0 n.toNat ps).length = N := by unfold csOf; rw [List.length_map]; exact hg.len
 rw [hl] at h
 exact h
theorem May.uniq {w0 : World} {n : Int} {N m : Nat} {ps : List (Cv × List Tv)} {L : List Int} {o p : Nat → Option Nat} (g : May w0 n N ps m L o) (h : May w0 n N ps m L p) : o = p := outsL_inj g.cho.out h.cho.out (g.outs.symm.trans h.outs)
end Go.Proofs.Ytjbhhccklfddaaa
