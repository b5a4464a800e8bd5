/-
  A round, by the program; rows copied and compared.
  Rows of ints copied and compared, by the library.
-/
import Derived.Test.YtjbhhccklfddaaaVDlE
import Derived.Lib.AppendZeros
import Derived.Sort.AtCall
import Derived.Deep.Cut
import Derived.Lib.SliceRun
namespace Go.Proofs.Ytjbhhccklfddaaa
set_option maxRecDepth 20000
open Go.RowKit
theorem IRow.but2 {b g : Nat} {w w' : World} {A : Option Addr} {n : Nat} {l : List Nat} (h : IRow w A n l) (hb : But2 b g w w') (hA : ∀ ad, A = some ad → ad.block ≠ b ∧ ad.block ≠ g) : IRow w' A n l :=
 ⟨h.len, fun hn => by
  obtain ⟨k, off, e, h1, hc⟩ := h.mem hn
  obtain ⟨n1, n2⟩ := hA _ e
  exact ⟨k, off, e, Nat.lt_of_lt_of_le h1 hb.size, fun j hj => (World.cell?_of_block (hb.block k h1 n1 n2)).trans (hc j hj)⟩⟩
theorem drop_nth {l : List Nat} {k : Nat} (h : k < l.length) : l.drop k = nth l k :: l.drop (k + 1) := by
 rw [List.drop_eq_getElem_cons h]
 congr 1
 have := nth_get h
 rw [List.getElem?_eq_getElem h] at this
 injection this
theorem rt_nth (l : List Nat) (k : Nat) : rt l k = nth l k := rfl
set_option maxHeartbeats 6400000 in
theorem round_c {w0 : World} {n N : Nat} {A : Option Addr} {cA : Nat} {ps : List (Cv × List Tv)} {vs : Nat → List Nat} {s : Nat → Nat} (hS : Sys w0 n N A ps vs s) (hB : Bridge N vs) {o : Nat → Option Nat} (hC : Cho N vs o)
  (lo b g c : Nat) (OA : Option Addr) (m oc : Nat) (l : List Nat) (w : World) (hb0 : Below w0.heap.size w0 w) (hlo : w0.heap.size ≤ lo) (hb : ChM w lo b (.slice A N cA) g c N o) (hO : IRow w OA m l) (hOA : ∀ ad, OA = some ad → ad.block ≠ b ∧ ad.block ≠ g) (hl : ∀ i ∈ l, i < N) (hm9 : m ≤ 1000) :
  Calls Try.prog 28 #[.pointer (some ⟨b, 0, none⟩), .slice OA m oc] w fun e w' => e = .returned (.tuple #[]) ∧ ∃ o', Rnd N vs s l o o' ∧ Cho N vs o' ∧ ChM w' lo b (.slice A N cA) g c N o' ∧ But2 b g w w' := by
 have N9 := hS.N9
 have HL : Hid (lo ≤ b ∧ lo ≤ g ∧ lo ≤ w.heap.size) := by have := hb.lt; have := hb.lo; show _ ∧ _ ∧ _; omega
 have HD := Lib.hid (And.intro hb0 (And.intro hlo (And.intro hO (And.intro hOA hl))))
 have HLn := Lib.hid hO.len
 have m0 : (0 : Int) ≤ (m : Int) := by omega
 have HR0 : Hid ((∀ o', Rnd N vs s (l.drop 0) o o' → Rnd N vs s l o o') ∧ Cho N vs o ∧ ChM w lo b (.slice A N cA) g c N o ∧ But2 b g w w) := ⟨fun _ h => h, hC, hb, But2.of (Below.refl _ _)⟩
 clear hb0 hlo hb hO hOA hl
 go_enter Try.func28, Try.ntmps28
 go_wp2
 go_loopw [5, 8] (fun _ kv wr => ∃ (k : Nat) (o1 : Nat → Option Nat), k ≤ m ∧ kv = .int .i64 k ∧ Hid ((∀ o', Rnd N vs s (l.drop k) o1 o' → Rnd N vs s l o o') ∧ Cho N vs o1 ∧ ChM wr lo b (.slice A N cA) g c N o1 ∧ But2 b g w wr)) (fun _ kv _ => m - (intOf kv).toNat)
 case atStart => exact ⟨0, o, Nat.zero_le _, rfl, HR0⟩
 case round =>
  clear HR0
  obtain ⟨k, o1, hk, rfl, HR⟩ := hrel
  have k0 : (0 : Int) ≤ (k : Int) := by omega
  by_cases hlt : k < m
  ·
   have k1 : (k : Int) < (m : Int) := by omega
   have hkl : k < l.length := by rw [HLn.out]; exact hlt
   obtain ⟨bk, off, hOa, _, hcell⟩ := (HD.out.2.2.1.but2 HR.out.2.2.2 HD.out.2.2.2.1).mem (by omega)
   have c0 := hcell k hlt
   rw [hOa]
   clear hcell
   have hdr := drop_nth hkl
   have HI : Hid (nth l k ∈ l) := nth_mem hkl
   rw [rt_nth] at c0
   obtain ⟨i, hi⟩ : ∃ i, i = nth l k := ⟨_, rfl⟩
   rw [← hi] at c0 hdr HI
   have hiN : i < N := HD.out.2.2.2.2 i HI.out
   have HDR := Lib.hid hdr
   clear hi hdr hkl
   have i0 : (0 : Int) ≤ (i : Int) := by omega
   have i1 : (i : Int) < (N : Int) := by omega
   have c1 := HR.out.2.2.1.blk.cellO
   have c2 := HR.out.2.2.1.row.cell hiN
   rw [outsL_zt hiN] at c2
   cases ho : o1 i with
   |
    some v =>
    rw [ho] at c2
    have c2' : wr.cell? ⟨g, i, none⟩ = some (.int .i64 (v : Int)) := c2
    have vne : (v : Int) ≠ -1 := by omega
    have HS1 : Hid (∀ o', Rnd N vs s (l.drop (k + 1)) o1 o' → Rnd N vs s l o o') := fun o' h => HR.out.1 o' (by rw [HDR.out]; exact .skip _ _ _ _ (by rw [ho]; rfl) h)
    clear c2 ho
    go_wp2
    go_roundw
    case rel => exact ⟨k + 1, o1, by omega, by go_num, Lib.hid ⟨HS1.out, HR.out.2⟩⟩
    case measure => simp [intOf]; omega
   |
    none =>
    rw [ho] at c2
    have c2' : wr.cell? ⟨g, i, none⟩ = some (.int .i64 (-1)) := c2
    have HO := Lib.hid ho
    clear c2 ho
    go_wp2_with fail
    clear c0 c1 c2'
    refine (enforce_c hS hB HR.out.2.1 lo i b g c wr (HD.out.1.trans ((HR.out.2.2.2.below HL.out.1 HL.out.2.1 HL.out.2.2).mono HD.out.2.1)) HD.out.2.1 HR.out.2.2.1 hiN HO.out).mono ?_
    rintro ee w2 ⟨rfl, o2, he, hc2, hm2, hb2⟩
    have HS1 : Hid ((∀ o', Rnd N vs s (l.drop (k + 1)) o2 o' → Rnd N vs s l o o') ∧ Cho N vs o2 ∧ ChM w2 lo b (.slice A N cA) g c N o2 ∧ But2 b g w w2) := ⟨fun o' h => HR.out.1 o' (by rw [HDR.out]; exact .one _ _ _ _ _ HO.out he h), hc2, hm2, HR.out.2.2.2.trans hb2⟩
    clear he hc2 hm2 hb2
    go_wp2
    go_roundw
    case rel => exact ⟨k + 1, o2, by omega, by go_num, HS1⟩
    case measure => simp [intOf]; omega
  ·
   have k1 : ¬ (k : Int) < (m : Int) := by omega
   have e : l.drop k = [] := List.drop_of_length_le (by rw [HLn.out]; omega)
   have HF := HR.out
   rw [e] at HF
   have HF' := Lib.hid HF
   clear HF e
   go_wp2
   refine bodyPost_end (results_none rfl _ _ _) rfl ?_
   exact ⟨rfl, o1, HF'.out.1 _ (.nil _), HF'.out.2⟩
end Go.Proofs.Ytjbhhccklfddaaa

namespace Go.Proofs.Ytjbhhccklfddaaa
set_option maxRecDepth 20000
open Go.RowKit
theorem wpz_appends {w : World} {ops : Array Oper} {rest : List Oper} {o : Oper} {a : Act} {Q : Exit → Act → World → Prop} (hgd : o.guard = none) (s x : Operand)
  (ho : o.op = .call { callee := .builtin .append, args := #[s, x], argTypes := #[23, 23] })
  {A A' : Option Addr} {lo n c m c' : Nat} {l k : List Int} (hs : a.eval s = .slice A n c) (hx : a.eval x = .slice A' m c')
  (h1 : OwnZ w lo A c n l) (h2 : ZRow w A' m k) (hm : n + m ≤ 2000000) (hlo : lo ≤ w.heap.size)
  (h : ∀ A2 c2 w', OwnZ w' lo A2 c2 (n + m) (l ++ k) → w.grownBy w' (A.map (·.block)) → wpList Try.prog ops Q rest (a.put o.dst (.slice A2 (n + m) c2)) w') :
  wpList Try.prog ops Q (o :: rest) a w := by
 cases A' with
 | some ad => exact wpz_append hgd s x ho hs hx h1 h2 hm hlo h
 |
  none =>
  obtain ⟨i0, hi, hz0, hz1, hz2⟩ := info_parts Try.info3
  have hm0 : m = 0 := by
   rcases Nat.eq_zero_or_pos m with h0 | h0
   · exact h0
   · obtain ⟨_, _, e, _⟩ := h2.mem h0; cases e
  subst hm0
  have hk0 : k = [] := List.eq_nil_of_length_eq_zero h2.len
  subst hk0
  refine wpList_plain hgd fun K hK => ?_
  have hrun : (Builtin.append_ #[23, 23] o.type #[.slice A n c, .slice none 0 c']).run Try.prog w = .ok (.slice A n c) w := by
   rcases h1.own.2 with ⟨hv, hn⟩ | ⟨g, cap, cur, hv, _, _, hnc, _⟩
   · rw [hv]; simp [Builtin.append_, run_underlying Try.underlying23, sizeOf, typeInfo, hi, Builtin.lenOf, Builtin.firstCells]
   · rw [hv]; simp [Builtin.append_, run_underlying Try.underlying23, sizeOf, typeInfo, hi, Builtin.lenOf, Builtin.firstCells, hnc, storeCells]
  unfold Oper.wp
  simp [execOp, ho, resolve, invoke, builtin, hs, hx, hrun, Result.andThen]
  exact hK _ _ (h A c w (by simpa using h1) (World.grownBy.refl _ _))
set_option maxHeartbeats 3200000 in
theorem Clone_c (A : Option Addr) (n c : Nat) (l : List Int) (w : World) (h : ZRow w A n l) (hn : n ≤ 1000) :
  Calls Try.prog 26 #[.slice A n c] w fun e w' => ∃ A2 c2, e = .returned (.slice A2 n c2) ∧ OwnZ w' w.heap.size A2 c2 n l ∧ Below w.heap.size w w' := by
 have H := Lib.hid h
 have q22 : ∀ (w : World) (a : Option Addr) (n c n' c' : Nat), (binOp .eql 23 (.slice a n c) (.slice none n' c')).run Try.prog w = .ok (.bool a.isNone) w := fun w a n c n' c' => Lib.run_eql_slice_nil w _ _ a n c n' c' Try.underlying23
 cases A with
 |
  none =>
  have hm0 : n = 0 := by
   rcases Nat.eq_zero_or_pos n with h0 | h0
   · exact h0
   · obtain ⟨_, _, e, _⟩ := h.mem h0; cases e
  have hl : l = [] := List.eq_nil_of_length_eq_zero (by rw [h.len]; exact hm0)
  subst hm0 hl
  clear h H
  go_enter Try.func26, Try.ntmps26
  go_wp2
  go_ret
  exact ⟨none, 0, rfl, OwnZ.nil_ _ _, Below.refl _ _⟩
 |
  some ad =>
  clear h
  go_enter Try.func26, Try.ntmps26
  go_wp2_with (at_builtin; refine wpz_appends rfl _ _ rfl rfl rfl (l := []) (n := 0) (lo := w.heap.size) ⟨World.ownsRow_made w #[] 0 (Nat.le_refl _) (Nat.zero_le _) rfl⟩ (H.out.below ((Below.refl _ _).alloc (Nat.le_refl _) _)) (by omega) (by simp) ?_)
  intro A2 c2 w1 hown hgrow
  have HO : Hid (OwnZ w1 w.heap.size A2 c2 n l ∧ Below w.heap.size w w1) := ⟨by simpa using hown, ((Below.refl _ w).alloc (Nat.le_refl _) _).grown hgrow (by simp) (by intro k hk; simp at hk; omega)⟩
  clear hown hgrow
  go_wp2
  go_ret
  exact ⟨A2, c2, rfl, HO.out.1, HO.out.2⟩
set_option maxHeartbeats 3200000 in
theorem Equal_c (A B : Option Addr) (n ca cb : Nat) (l k : List Int) (w : World) (h : ZRow w A n l) (g : ZRow w B n k) (hn : n ≤ 1000) :
  Calls Try.prog 29 #[.slice A n ca, .slice B n cb] w fun e w' => BPost (l = k) e ∧ Below w.heap.size w w' := by
 have n0 : (0 : Int) ≤ (n : Int) := by omega
 have H := Lib.hid (And.intro h g)
 have hl := Lib.hid h.len
 have hk := Lib.hid g.len
 clear h g
 have HR0 : Hid ((∀ j, j < 0 → zt l j = zt k j) ∧ Below w.heap.size w w) := ⟨fun j hj => absurd hj (Nat.not_lt_zero _), Below.refl _ _⟩
 go_enter Try.func29, Try.ntmps29
 go_wp2
 go_loopw [5, 13] (fun _ iv wr => ∃ i : Nat, i ≤ n ∧ iv = .int .i64 i ∧ Hid ((∀ j, j < i → zt l j = zt k j) ∧ Below w.heap.size w wr)) (fun _ iv _ => n - (intOf iv).toNat)
 case atStart => exact ⟨0, Nat.zero_le _, rfl, HR0⟩
 case round =>
  clear HR0
  obtain ⟨i, hi, rfl, HR⟩ := hrel
  have i0 : (0 : Int) ≤ (i : Int) := by omega
  by_cases hlt : i < n
  ·
   have i1 : (i : Int) < (n : Int) := by omega
   obtain ⟨ba, oa, ea, _, ha⟩ := (H.out.1.below HR.out.2).mem (by omega)
   obtain ⟨bb, ob, eb, _, hb⟩ := (H.out.2.below HR.out.2).mem (by omega)
   have c0 := ha i hlt
   have c1 := hb i hlt
   clear ha hb
   rw [ea, eb]
   obtain ⟨x, hx⟩ : ∃ x, x = zt l i := ⟨_, rfl⟩
   obtain ⟨y, hy⟩ : ∃ y, y = zt k i := ⟨_, rfl⟩
   rw [← hx] at c0
   rw [← hy] at c1
   have HXY := Lib.hid (And.intro hx hy)
   clear hx hy ea eb
   go_wp2
   go_region_held3 (fun w' => w'.cell? ⟨ba, oa + i, none⟩ = some (.int .i64 x) ∧ w'.cell? ⟨bb, ob + i, none⟩ = some (.int .i64 y)) (go_keep) (fail)
   by_cases hxy : x = y
   ·
    have HS1 : Hid ((∀ j, j < i + 1 → zt l j = zt k j) ∧ Below w.heap.size w wr.drew) := ⟨fun j hj => by
     by_cases e : j = i
     · rw [e, ← HXY.out.1, ← HXY.out.2, hxy]
     · exact HR.out.1 j (by omega), HR.out.2.drew⟩
    go_wp2
    go_roundw
    case rel => exact ⟨i + 1, by omega, by go_num, HS1⟩
    case measure => simp [intOf]; omega
   ·
    have HS1 : Hid (l ≠ k ∧ Below w.heap.size w wr.drew) := ⟨fun e => hxy (by rw [HXY.out.1, HXY.out.2, e]), HR.out.2.drew⟩
    go_wp2
    go_ret
    exact ⟨BPost.no HS1.out.1 rfl, HS1.out.2⟩
  ·
   have i1 : ¬ (i : Int) < (n : Int) := by omega
   have e : l = k := zt_ext (hl.out.trans hk.out.symm) fun v hv => HR.out.1 v (by have := hl.out; omega)
   have HB := Lib.hid (And.intro e HR.out.2)
   clear HR e
   go_wp2
   go_ret
   exact ⟨BPost.yes HB.out.1 rfl, HB.out.2⟩
end Go.Proofs.Ytjbhhccklfddaaa
