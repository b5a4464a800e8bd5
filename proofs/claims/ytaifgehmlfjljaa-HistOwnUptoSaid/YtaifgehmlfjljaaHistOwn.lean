/-
  What is handed in is not changed, nor kept: the walk.
-/
import Derived.Test.YtaifgehmlfjljaaHsF
import Derived.Test.YtaifgehmlfjljaaRegInv
import Derived.Deep.RegionLawGrows
import Derived.Deep.DeepCutAuto
namespace Go.Proofs.Ytaifgehmlfjljaa
set_option maxRecDepth 20000
open Go.RowKit

/-- A row of texts that is new, or empty. -/
structure NewS (lo : Nat) (w : World) (X : Option Addr) (c m : Nat) (k : List ByteArray) : Prop where
  row : Strs w X m k
  cap : m ≤ c
  own : 0 < m → OwnS w lo X c m k
theorem NewS.below {lo : Nat} {w w' : World} {X : Option Addr} {c m : Nat} {k : List ByteArray} (h : NewS lo w X c m k) (hb : Below w.heap.size w w') : NewS lo w' X c m k :=
  ⟨h.row.below hb, h.cap, fun hm => (h.own hm).below hb⟩
theorem NewS.lower {lo lo' : Nat} {w : World} {X : Option Addr} {c m : Nat} {k : List ByteArray} (h : NewS lo w X c m k) (hl : lo' ≤ lo) : NewS lo' w X c m k :=
  ⟨h.row, h.cap, fun hm => (h.own hm).lower hl⟩
theorem NewS.putC {lo b : Nat} {w : World} {X : Option Addr} {c m : Nat} {k : List ByteArray} (h : NewS lo w X c m k) {p q : Value} (kz : C2 w b 24 p q) (x y : Value) : NewS lo (put2 w b x y) X c m k := by
  by_cases h0 : 0 < m
  · have o := (h.own h0).put kz (by decide) x y
    exact ⟨o.strs h.row.sz, h.cap, fun _ => o⟩
  · exact ⟨⟨h.row.len, h.row.sz, fun hn => absurd hn h0⟩, h.cap, fun hn => absurd hn h0⟩
theorem steps_app0 {w : World} {ops : Array Oper} {o : Oper} {a : Act} {K : Act → World → Prop} {Q : Exit → Act → World → Prop} {E : Prop} (hgd : o.guard = none) (s x : Operand)
    (ho : o.op = .call { callee := .builtin .append, args := #[s, x], argTypes := #[22, 22] })
    {A0 A' : Option Addr} {m c' : Nat} {k : List ByteArray} (hs : a.eval s = .slice A0 0 0) (hx : a.eval x = .slice A' m c') (h2 : Strs w A' m k) (hm : m ≤ 2000000)
    (h : ∀ X cX w', NewS w.heap.size w' X cX m k → Below w.heap.size w w' → K (a.put o.dst (.slice X m cX)) w') :
    if Region.wanted o (yielded ops a.tmps) = true then Oper.wp Try.prog o a w K Q else E := by
  obtain ⟨i0, hi, hz0, hz1, hz2⟩ := info_parts Try.info9
  rcases Nat.eq_zero_or_pos m with h0 | h0
  · subst h0
    have hk0 : k = [] := List.eq_nil_of_length_eq_zero h2.len
    subst hk0
    have hw : Region.wanted o (yielded ops a.tmps) = true := by simp [Region.wanted, hgd]
    rw [if_pos hw]
    have hrun : (Builtin.append_ #[22, 22] o.type #[.slice A0 0 0, .slice A' 0 c']).run Try.prog w = .ok (.slice A0 0 0) w := by
      cases A0 <;> cases A' <;> simp [Builtin.append_, run_underlying Try.underlying22, sizeOf, typeInfo, hi, Builtin.lenOf, Builtin.firstCells, storeCells, loadCells, loadCellsFrom, go_sem, Result.andThen]
    unfold Oper.wp
    simp [execOp, ho, resolve, invoke, builtin, hs, hx, hrun, Result.andThen]
    exact h A0 0 w ⟨Strs.nil_ _ _, Nat.le_refl _, fun h => absurd h (by omega)⟩ (Below.refl _ _)
  · obtain ⟨b, off, rfl, _, hc⟩ := h2.mem h0
    have hk := h2.len
    refine step_append_grows hgd s x 22 ho 9 i0 (.string ⟨#[]⟩) 1 16 Try.underlying22 hi hz0 hz1 hz2 rfl (by decide) A0 0 0 [] hs (fun _ => ⟨rfl, rfl⟩) rfl (fun _ _ j u hu => by simp at hu) ⟨b, off, none⟩ m c' (k.map Value.string) hx (by simp [hk]) (h2.src rfl) (str_one k) (by omega) (by unfold maxLen; omega) (by omega) ?_
    intro v' w' ho' hg'
    rw [List.nil_append, Nat.zero_add] at ho'
    have ho2 := ho'
    rcases ho'.2 with ⟨rfl, hz⟩ | ⟨g, cap, cur, rfl, _⟩
    · omega
    · have hO : OwnS w' w.heap.size (some ⟨g, 0, none⟩) cap m k := ⟨ho2⟩
      exact h _ _ w' ⟨hO.strs h2.sz, hO.capLe, fun _ => hO⟩ (below_of_grown hg')
theorem Undo_drop (A B : Option Addr) (n c m d : Nat) (l k : List ByteArray) (s : ByteArray) (w : World) (h : Strs w A n l) (h' : Strs w B m k) (hn : n ≤ 1500000) (hm : m ≤ 1500000) (hs : s.size ≤ 2000000) (hc : n ≤ c) :
    Calls Try.prog 11 #[.agg #[.slice A n c, .slice B m d], .string s] w fun e w' => ∃ v, e = .returned v ∧ Below w.heap.size w w' := by
  cases n with
  | zero =>
    refine (Undo_no A B 0 c m d l k s w h h' (by omega) (by omega) rfl).mono ?_
    rintro e w' ⟨_, _, _, _, rfl, _, _, hb⟩
    exact ⟨_, rfl, hb⟩
  | succ q =>
    obtain ⟨x, hx⟩ : ∃ x, l[q]? = some x := ⟨_, List.getElem?_eq_getElem (by have := h.len; omega)⟩
    refine (Undo_yes A B q c m d l k s x w h h' hn hm hs hx hc).mono ?_
    rintro e w' ⟨_, _, _, _, rfl, _, _, hb⟩
    exact ⟨_, rfl, hb⟩
theorem Redo_drop (A B : Option Addr) (n c m d : Nat) (l k : List ByteArray) (s : ByteArray) (w : World) (h : Strs w A n l) (h' : Strs w B m k) (hn : n ≤ 1500000) (hm : m ≤ 1500000) (hs : s.size ≤ 2000000) (hc : m ≤ d) :
    Calls Try.prog 13 #[.agg #[.slice A n c, .slice B m d], .string s] w fun e w' => ∃ v, e = .returned v ∧ Below w.heap.size w w' := by
  cases m with
  | zero =>
    refine (Redo_no A B n c 0 d l k s w h h' (by omega) (by omega) rfl).mono ?_
    rintro e w' ⟨_, _, _, _, rfl, _, _, hb⟩
    exact ⟨_, rfl, hb⟩
  | succ q =>
    obtain ⟨x, hx⟩ : ∃ x, k[q]? = some x := ⟨_, List.getElem?_eq_getElem (by have := h'.len; omega)⟩
    refine (Redo_yes A B n c q d l k s x w h h' hn hm hs hx hc).mono ?_
    rintro e w' ⟨_, _, _, _, rfl, _, _, hb⟩
    exact ⟨_, rfl, hb⟩
theorem C2.setS {w : World} {b lo g c n : Nat} {t : TypeId} {x y : Value} {l : List ByteArray} (h : C2 w b t x y) (ho : OwnS w lo (some ⟨g, 0, none⟩) c n l) (h0 : 0 < n) (ht : t ≠ 9) (i : Nat) (u : Value) : C2 (w.setCell ⟨g, i, none⟩ u) b t x y := by
  have hne : b ≠ g := fun e => by
    rcases ho.own.2 with ⟨_, e0⟩ | ⟨g', cap, cur, hv, _, hh, _⟩
    · omega
    · injection hv with e3; injection e3 with e3; injection e3 with e3
      unfold C2 at h
      rw [e, e3, hh] at h
      injection h with h; injection h with _ h6; exact ht h6.symm
  exact (Below.heap_setCell w ⟨g, i, none⟩ u b hne).trans h
structure HO3 (w0 : World) (bv : Nat) (A : Option Addr) (n : Nat) (c : Nat) (B : Option Addr) (m : Nat) (d : Nat) (l : List ByteArray) (k : List ByteArray) (S : Nat → Prop) (t15 t16 t17 t18 t19 t20 t21 t22 t23 t5 : Value) (xb : Nat) (w : World) : Prop where
  hB : Below w0.heap.size w0 w
  h0 : S 0 → ∃ A0, t15 = .slice A0 0 0
  h1 : S 1 → t16 = .pointer (some ⟨bv, 0, none⟩)
  h2 : S 2 → t17 = .slice A n c
  h3 : S 3 → ∃ X cX, t18 = .slice X n cX ∧ NewS w0.heap.size w X cX n l
  h4 : S 4 → ∃ A0, t19 = .slice A0 0 0
  h5 : S 5 → t20 = .pointer (some ⟨bv, 1, none⟩)
  h6 : S 6 → t21 = .slice B m d
  h7 : S 7 → ∃ Y cY, t22 = .slice Y m cY ∧ NewS w0.heap.size w Y cY m k
  h8 : S 8 → t23 = .agg #[t18, t22]
  h9 : S 9 → t5 = .pointer (some ⟨xb, 0, none⟩) ∧ w0.heap.size ≤ xb ∧ ∃ p q, C2 w xb 24 p q
  h10 : S 10 → C2 w xb 24 t18 t22
set_option maxHeartbeats 6400000 in
theorem HistOwn_c (A B : Option Addr) (n c m d : Nat) (l k : List ByteArray) (s : ByteArray) (w : World) (h : Strs w A n l) (h' : Strs w B m k) (hn : n ≤ 1200000) (hm : m ≤ 1200000) (hs : s.size ≤ 2000000) :
    Calls Try.prog 6 #[.agg #[.slice A n c, .slice B m d], .string s] w fun e w' => e = .returned (.bool true) ∧ Below w.heap.size w w' := by
  have HB : Hid (Below w.heap.size w (w.alloc (.cells #[.slice A n c, .slice B m d] 24))) := below_alloc _ _
  have k0 : C2 (w.alloc (.cells #[.slice A n c, .slice B m d] 24)) w.heap.size 24 (.slice A n c) (.slice B m d) := C2.newAt _ _ _ rfl
  have HZ := Lib.hid (And.intro h.sz (And.intro h'.sz (And.intro h.len h'.len)))
  have HS := Lib.hid (And.intro (h.below HB.out) (h'.below HB.out))
  have K0 := Lib.hid k0
  clear h h' k0
  go_enter Try.func6, Try.ntmps6
  go_wp2_with fail
  generalize w.alloc (.cells #[.slice A n c, .slice B m d] 24) = W at *
  refine (long_c A B n c m d l k _ HS.out.1 HS.out.2 (by omega) (by omega)).mono ?_
  rintro e w1 ⟨⟨r, rfl⟩, hb⟩
  have H1 : Hid (Below w.heap.size w w1 ∧ Strs w1 A n l ∧ Strs w1 B m k ∧ C2 w1 w.heap.size 24 (.slice A n c) (.slice B m d)) := ⟨HB.out.trans (hb.mono HB.out.size), HS.out.1.below hb, HS.out.2.below hb, K0.out.below hb⟩
  obtain ⟨a0, a1⟩ := H1.out.2.2.2.facts
  clear hb HB HS K0
  cases r with
  | true =>
    go_wp2
    go_ret
    exact ⟨rfl, H1.out.1⟩
  | false =>
    by_cases h500 : 500 < s.size
    · have i1 : (500 : Int) < (s.size : Int) := by omega
      go_wp2
      go_ret
      exact ⟨rfl, H1.out.1⟩
    · have i1 : ¬ (500 : Int) < (s.size : Int) := by omega
      go_wp2_with fail
      have K1 := Lib.hid H1.out.2.2.2
      clear a0 a1
      refine region_inv (fun S a' w' => ∃ (t15 : Value) (t16 : Value) (t17 : Value) (t18 : Value) (t19 : Value) (t20 : Value) (t21 : Value) (t22 : Value) (t23 : Value) (t5 : Value) (xb : Nat), a' = { tmps := List.toArray ((.agg #[.slice A n c, .slice B m d]) :: (.string s) :: (.pointer (some ⟨w.heap.size, 0, none⟩)) :: undef :: (.bool false) :: t5 :: undef :: undef :: (.agg #[.slice A n c, .slice B m d]) :: (.bool false) :: (.bool false) :: (.string s) :: (.int .i64 (s.size : Int)) :: (.bool (decide ((500 : Int) < (s.size : Int)))) :: (.bool (decide ((500 : Int) < (s.size : Int)))) :: t15 :: t16 :: t17 :: t18 :: t19 :: t20 :: t21 :: t22 :: t23 :: undef :: undef :: undef :: undef :: undef :: undef :: undef :: undef :: undef :: undef :: undef :: undef :: undef :: undef :: undef :: undef :: undef :: undef :: undef :: undef :: undef :: undef :: undef :: undef :: undef :: undef :: undef :: undef :: undef :: undef :: undef :: undef :: []), defers := [] } ∧ HO3 w1 w.heap.size A n c B m d l k S t15 t16 t17 t18 t19 t20 t21 t22 t23 t5 xb w') (by kernel_rfl) (by kernel_rfl) ?_ ?_ ?_
      · exact ⟨undef, undef, undef, undef, undef, undef, undef, undef, undef, undef, 0, rfl, { hB := (bel1 w1), h0 := fun h => h.elim, h1 := fun h => h.elim, h2 := fun h => h.elim, h3 := fun h => h.elim, h4 := fun h => h.elim, h5 := fun h => h.elim, h6 := fun h => h.elim, h7 := fun h => h.elim, h8 := fun h => h.elim, h9 := fun h => h.elim, h10 := fun h => h.elim }⟩
      · rintro i o S a' w2 ho ⟨t15, t16, t17, t18, t19, t20, t21, t22, t23, t5, xb, rfl, hJ⟩ hni hcl hd K hK
        have hi : i < 11 := (Array.getElem?_eq_some_iff.1 ho).1
        have hi2 : i = 0 ∨ i = 1 ∨ i = 2 ∨ i = 3 ∨ i = 4 ∨ i = 5 ∨ i = 6 ∨ i = 7 ∨ i = 8 ∨ i = 9 ∨ i = 10 := by omega
        replace hK := Go.Lib.hid hK
        clear hi
        rcases hi2 with rfl | rfl | rfl | rfl | rfl | rfl | rfl | rfl | rfl | rfl | rfl
        · have ho2 : some _ = some o := ho
          obtain rfl := Option.some.inj ho2
          clear ho ho2
          go_simp
          refine hK.out _ _ ⟨_, _, _, _, _, _, _, _, _, _, xb, rfl, ?_⟩
          exact ⟨hJ.hB.trans ((below_alloc w2 _).mono hJ.hB.size),
              fun _ => ⟨_, rfl⟩,
              fun h => (hJ.h1 (h.resolve_left (by decide))),
              fun h => (hJ.h2 (h.resolve_left (by decide))),
              fun h => let ⟨X, cX, e, f⟩ := (hJ.h3 (h.resolve_left (by decide))); ⟨X, cX, e, f.below (below_alloc w2 _)⟩,
              fun h => (hJ.h4 (h.resolve_left (by decide))),
              fun h => (hJ.h5 (h.resolve_left (by decide))),
              fun h => (hJ.h6 (h.resolve_left (by decide))),
              fun h => let ⟨X, cX, e, f⟩ := (hJ.h7 (h.resolve_left (by decide))); ⟨X, cX, e, f.below (below_alloc w2 _)⟩,
              fun h => (hJ.h8 (h.resolve_left (by decide))),
              fun h => let ⟨e, l, p, q, f⟩ := (hJ.h9 (h.resolve_left (by decide))); ⟨e, l, p, q, f.below (below_alloc w2 _)⟩,
              fun h => (hJ.h10 (h.resolve_left (by decide))).below (below_alloc w2 _)⟩
        · have ho2 : some _ = some o := ho
          obtain rfl := Option.some.inj ho2
          clear ho ho2
          go_simp
          refine hK.out _ _ ⟨_, _, _, _, _, _, _, _, _, _, xb, rfl, ?_⟩
          exact ⟨hJ.hB,
              fun h => (hJ.h0 (h.resolve_left (by decide))),
              fun _ => rfl,
              fun h => (hJ.h2 (h.resolve_left (by decide))),
              fun h => (hJ.h3 (h.resolve_left (by decide))),
              fun h => (hJ.h4 (h.resolve_left (by decide))),
              fun h => (hJ.h5 (h.resolve_left (by decide))),
              fun h => (hJ.h6 (h.resolve_left (by decide))),
              fun h => (hJ.h7 (h.resolve_left (by decide))),
              fun h => (hJ.h8 (h.resolve_left (by decide))),
              fun h => (hJ.h9 (h.resolve_left (by decide))),
              fun h => (hJ.h10 (h.resolve_left (by decide)))⟩
        · have ho2 : some _ = some o := ho
          obtain rfl := Option.some.inj ho2
          clear ho ho2
          have hd2 : S 1 ∧ True := hd
          obtain ⟨d1, _⟩ := hd2
          have e1 := hJ.h1 d1
          subst e1
          obtain ⟨v_0, v_1⟩ := (K1.out.below hJ.hB).facts
          go_simp
          refine hK.out _ _ ⟨_, _, _, _, _, _, _, _, _, _, xb, rfl, ?_⟩
          exact ⟨hJ.hB,
              fun h => (hJ.h0 (h.resolve_left (by decide))),
              fun h => (hJ.h1 (h.resolve_left (by decide))),
              fun _ => rfl,
              fun h => (hJ.h3 (h.resolve_left (by decide))),
              fun h => (hJ.h4 (h.resolve_left (by decide))),
              fun h => (hJ.h5 (h.resolve_left (by decide))),
              fun h => (hJ.h6 (h.resolve_left (by decide))),
              fun h => (hJ.h7 (h.resolve_left (by decide))),
              fun h => (hJ.h8 (h.resolve_left (by decide))),
              fun h => (hJ.h9 (h.resolve_left (by decide))),
              fun h => (hJ.h10 (h.resolve_left (by decide)))⟩
        · have n8 : ¬ S 8 := fun h => by
            have h2 : S 3 ∧ S 7 ∧ True := hcl 8 _ rfl h
            exact hni h2.1
          have n10 : ¬ S 10 := fun h => by
            have h2 : S 9 ∧ S 8 ∧ S 7 ∧ S 0 ∧ S 1 ∧ S 2 ∧ S 3 ∧ S 4 ∧ S 5 ∧ S 6 ∧ S 7 ∧ S 8 ∧ S 9 ∧ True := hcl 10 _ rfl h
            exact hni h2.2.2.2.2.2.2.1
          have ho2 : some _ = some o := ho
          obtain rfl := Option.some.inj ho2
          clear ho ho2
          have hd2 : S 0 ∧ S 2 ∧ True := hd
          obtain ⟨d0, d2, _⟩ := hd2
          obtain ⟨A0, ez⟩ := hJ.h0 d0
          have es := hJ.h2 d2
          subst ez es
          refine steps_app0 (A0 := A0) (A' := A) (m := n) (c' := c) (k := l) rfl _ _ rfl rfl rfl (H1.out.2.1.below hJ.hB) (by omega) ?_
          intro X cX w3 hX hb
          refine hK.out _ _ ⟨_, _, _, _, _, _, _, _, _, _, xb, rfl, ?_⟩
          exact ⟨hJ.hB.trans (hb.mono hJ.hB.size),
              fun h => (hJ.h0 (h.resolve_left (by decide))),
              fun h => (hJ.h1 (h.resolve_left (by decide))),
              fun h => (hJ.h2 (h.resolve_left (by decide))),
              fun _ => ⟨X, cX, rfl, hX.lower hJ.hB.size⟩,
              fun h => (hJ.h4 (h.resolve_left (by decide))),
              fun h => (hJ.h5 (h.resolve_left (by decide))),
              fun h => (hJ.h6 (h.resolve_left (by decide))),
              fun h => let ⟨X, cX, e, f⟩ := (hJ.h7 (h.resolve_left (by decide))); ⟨X, cX, e, f.below hb⟩,
              fun h => absurd (h.resolve_left (by decide)) n8,
              fun h => let ⟨e, l, p, q, f⟩ := (hJ.h9 (h.resolve_left (by decide))); ⟨e, l, p, q, f.below hb⟩,
              fun h => absurd (h.resolve_left (by decide)) n10⟩
        · have ho2 : some _ = some o := ho
          obtain rfl := Option.some.inj ho2
          clear ho ho2
          go_simp
          refine hK.out _ _ ⟨_, _, _, _, _, _, _, _, _, _, xb, rfl, ?_⟩
          exact ⟨hJ.hB.trans ((below_alloc w2 _).mono hJ.hB.size),
              fun h => (hJ.h0 (h.resolve_left (by decide))),
              fun h => (hJ.h1 (h.resolve_left (by decide))),
              fun h => (hJ.h2 (h.resolve_left (by decide))),
              fun h => let ⟨X, cX, e, f⟩ := (hJ.h3 (h.resolve_left (by decide))); ⟨X, cX, e, f.below (below_alloc w2 _)⟩,
              fun _ => ⟨_, rfl⟩,
              fun h => (hJ.h5 (h.resolve_left (by decide))),
              fun h => (hJ.h6 (h.resolve_left (by decide))),
              fun h => let ⟨X, cX, e, f⟩ := (hJ.h7 (h.resolve_left (by decide))); ⟨X, cX, e, f.below (below_alloc w2 _)⟩,
              fun h => (hJ.h8 (h.resolve_left (by decide))),
              fun h => let ⟨e, l, p, q, f⟩ := (hJ.h9 (h.resolve_left (by decide))); ⟨e, l, p, q, f.below (below_alloc w2 _)⟩,
              fun h => (hJ.h10 (h.resolve_left (by decide))).below (below_alloc w2 _)⟩
        · have ho2 : some _ = some o := ho
          obtain rfl := Option.some.inj ho2
          clear ho ho2
          go_simp
          refine hK.out _ _ ⟨_, _, _, _, _, _, _, _, _, _, xb, rfl, ?_⟩
          exact ⟨hJ.hB,
              fun h => (hJ.h0 (h.resolve_left (by decide))),
              fun h => (hJ.h1 (h.resolve_left (by decide))),
              fun h => (hJ.h2 (h.resolve_left (by decide))),
              fun h => (hJ.h3 (h.resolve_left (by decide))),
              fun h => (hJ.h4 (h.resolve_left (by decide))),
              fun _ => rfl,
              fun h => (hJ.h6 (h.resolve_left (by decide))),
              fun h => (hJ.h7 (h.resolve_left (by decide))),
              fun h => (hJ.h8 (h.resolve_left (by decide))),
              fun h => (hJ.h9 (h.resolve_left (by decide))),
              fun h => (hJ.h10 (h.resolve_left (by decide)))⟩
        · have ho2 : some _ = some o := ho
          obtain rfl := Option.some.inj ho2
          clear ho ho2
          have hd2 : S 5 ∧ True := hd
          obtain ⟨d5, _⟩ := hd2
          have e5 := hJ.h5 d5
          subst e5
          obtain ⟨v_0, v_1⟩ := (K1.out.below hJ.hB).facts
          go_simp
          refine hK.out _ _ ⟨_, _, _, _, _, _, _, _, _, _, xb, rfl, ?_⟩
          exact ⟨hJ.hB,
              fun h => (hJ.h0 (h.resolve_left (by decide))),
              fun h => (hJ.h1 (h.resolve_left (by decide))),
              fun h => (hJ.h2 (h.resolve_left (by decide))),
              fun h => (hJ.h3 (h.resolve_left (by decide))),
              fun h => (hJ.h4 (h.resolve_left (by decide))),
              fun h => (hJ.h5 (h.resolve_left (by decide))),
              fun _ => rfl,
              fun h => (hJ.h7 (h.resolve_left (by decide))),
              fun h => (hJ.h8 (h.resolve_left (by decide))),
              fun h => (hJ.h9 (h.resolve_left (by decide))),
              fun h => (hJ.h10 (h.resolve_left (by decide)))⟩
        · have n8 : ¬ S 8 := fun h => by
            have h2 : S 3 ∧ S 7 ∧ True := hcl 8 _ rfl h
            exact hni h2.2.1
          have n10 : ¬ S 10 := fun h => by
            have h2 : S 9 ∧ S 8 ∧ S 7 ∧ S 0 ∧ S 1 ∧ S 2 ∧ S 3 ∧ S 4 ∧ S 5 ∧ S 6 ∧ S 7 ∧ S 8 ∧ S 9 ∧ True := hcl 10 _ rfl h
            exact hni h2.2.2.1
          have ho2 : some _ = some o := ho
          obtain rfl := Option.some.inj ho2
          clear ho ho2
          have hd2 : S 4 ∧ S 6 ∧ S 3 ∧ True := hd
          obtain ⟨d4, d6, d3, _⟩ := hd2
          obtain ⟨A0, ez⟩ := hJ.h4 d4
          have es := hJ.h6 d6
          subst ez es
          refine steps_app0 (A0 := A0) (A' := B) (m := m) (c' := d) (k := k) rfl _ _ rfl rfl rfl (H1.out.2.2.1.below hJ.hB) (by omega) ?_
          intro X cX w3 hX hb
          refine hK.out _ _ ⟨_, _, _, _, _, _, _, _, _, _, xb, rfl, ?_⟩
          exact ⟨hJ.hB.trans (hb.mono hJ.hB.size),
              fun h => (hJ.h0 (h.resolve_left (by decide))),
              fun h => (hJ.h1 (h.resolve_left (by decide))),
              fun h => (hJ.h2 (h.resolve_left (by decide))),
              fun h => let ⟨X, cX, e, f⟩ := (hJ.h3 (h.resolve_left (by decide))); ⟨X, cX, e, f.below hb⟩,
              fun h => (hJ.h4 (h.resolve_left (by decide))),
              fun h => (hJ.h5 (h.resolve_left (by decide))),
              fun h => (hJ.h6 (h.resolve_left (by decide))),
              fun _ => ⟨X, cX, rfl, hX.lower hJ.hB.size⟩,
              fun h => absurd (h.resolve_left (by decide)) n8,
              fun h => let ⟨e, l, p, q, f⟩ := (hJ.h9 (h.resolve_left (by decide))); ⟨e, l, p, q, f.below hb⟩,
              fun h => absurd (h.resolve_left (by decide)) n10⟩
        · have ho2 : some _ = some o := ho
          obtain rfl := Option.some.inj ho2
          clear ho ho2
          have hd2 : S 3 ∧ S 7 ∧ True := hd
          obtain ⟨d3, d7, _⟩ := hd2
          obtain ⟨X, cX, eX, _⟩ := hJ.h3 d3
          obtain ⟨Y, cY, eY, _⟩ := hJ.h7 d7
          subst eX eY
          go_simp
          refine hK.out _ _ ⟨_, _, _, _, _, _, _, _, _, _, xb, rfl, ?_⟩
          exact ⟨hJ.hB,
              fun h => (hJ.h0 (h.resolve_left (by decide))),
              fun h => (hJ.h1 (h.resolve_left (by decide))),
              fun h => (hJ.h2 (h.resolve_left (by decide))),
              fun h => (hJ.h3 (h.resolve_left (by decide))),
              fun h => (hJ.h4 (h.resolve_left (by decide))),
              fun h => (hJ.h5 (h.resolve_left (by decide))),
              fun h => (hJ.h6 (h.resolve_left (by decide))),
              fun h => (hJ.h7 (h.resolve_left (by decide))),
              fun _ => rfl,
              fun h => (hJ.h9 (h.resolve_left (by decide))),
              fun h => (hJ.h10 (h.resolve_left (by decide)))⟩
        · have ho2 : some _ = some o := ho
          obtain rfl := Option.some.inj ho2
          clear ho ho2
          have n10b : ¬ S 10 := fun h => by
            have h2 : S 9 ∧ S 8 ∧ S 7 ∧ S 0 ∧ S 1 ∧ S 2 ∧ S 3 ∧ S 4 ∧ S 5 ∧ S 6 ∧ S 7 ∧ S 8 ∧ S 9 ∧ True := hcl 10 _ rfl h
            exact hni h2.1
          go_simp
          refine hK.out _ _ ⟨_, _, _, _, _, _, _, _, _, _, w2.heap.size, rfl, ?_⟩
          exact ⟨hJ.hB.trans ((below_alloc w2 _).mono hJ.hB.size),
              fun h => (hJ.h0 (h.resolve_left (by decide))),
              fun h => (hJ.h1 (h.resolve_left (by decide))),
              fun h => (hJ.h2 (h.resolve_left (by decide))),
              fun h => let ⟨X, cX, e, f⟩ := (hJ.h3 (h.resolve_left (by decide))); ⟨X, cX, e, f.below (below_alloc w2 _)⟩,
              fun h => (hJ.h4 (h.resolve_left (by decide))),
              fun h => (hJ.h5 (h.resolve_left (by decide))),
              fun h => (hJ.h6 (h.resolve_left (by decide))),
              fun h => let ⟨X, cX, e, f⟩ := (hJ.h7 (h.resolve_left (by decide))); ⟨X, cX, e, f.below (below_alloc w2 _)⟩,
              fun h => (hJ.h8 (h.resolve_left (by decide))),
              fun _ => ⟨rfl, hJ.hB.size, _, _, C2.newAt _ _ _ rfl⟩,
              fun h => absurd (h.resolve_left (by decide)) n10b⟩
        · have ho2 : some _ = some o := ho
          obtain rfl := Option.some.inj ho2
          clear ho ho2
          have hd2 : S 9 ∧ S 8 ∧ S 7 ∧ S 0 ∧ S 1 ∧ S 2 ∧ S 3 ∧ S 4 ∧ S 5 ∧ S 6 ∧ S 7 ∧ S 8 ∧ S 9 ∧ True := hd
          obtain ⟨d9, d8, d7, d0, d1, d2, d3, d4, d5, d6, d7, d8, d9, _⟩ := hd2
          obtain ⟨e5, hl, p, q, kz⟩ := hJ.h9 d9
          have e23 := hJ.h8 d8
          obtain ⟨X, cX, eX, _⟩ := hJ.h3 d3
          obtain ⟨Y, cY, eY, _⟩ := hJ.h7 d7
          subst eX eY
          subst e23 e5
          obtain ⟨z_0, z_1⟩ := kz.facts
          have z_2 := kz.thaw 0
          have z_3 := kz.thaw 1
          go_simp
          refine hK.out _ _ ⟨_, _, _, _, _, _, _, _, _, _, xb, rfl, ?_⟩
          exact ⟨hJ.hB.trans (put2_below hl),
              fun h => (hJ.h0 (h.resolve_left (by decide))),
              fun h => (hJ.h1 (h.resolve_left (by decide))),
              fun h => (hJ.h2 (h.resolve_left (by decide))),
              fun h => let ⟨X, cX, e, f⟩ := (hJ.h3 (h.resolve_left (by decide))); ⟨X, cX, e, f.putC kz _ _⟩,
              fun h => (hJ.h4 (h.resolve_left (by decide))),
              fun h => (hJ.h5 (h.resolve_left (by decide))),
              fun h => (hJ.h6 (h.resolve_left (by decide))),
              fun h => let ⟨X, cX, e, f⟩ := (hJ.h7 (h.resolve_left (by decide))); ⟨X, cX, e, f.putC kz _ _⟩,
              fun h => (hJ.h8 (h.resolve_left (by decide))),
              fun h => ⟨rfl, hl, _, _, kz.put _ _⟩,
              fun _ => kz.put _ _⟩
      · rintro S a' w2 ⟨t15, t16, t17, t18, t19, t20, t21, t22, t23, t5, xb, rfl, hJ⟩ hall
        obtain ⟨X, cX, e18, fX⟩ := hJ.h3 (hall 3 (by decide))
        obtain ⟨Y, cY, e22, fY⟩ := hJ.h7 (hall 7 (by decide))
        obtain ⟨e5, hxb, _, _, _⟩ := hJ.h9 (hall 9 (by decide))
        have k10 := hJ.h10 (hall 10 (by decide))
        have hB := hJ.hB
        clear hJ hall
        subst e18 e22 e5
        have H2 : Hid (Below w.heap.size w w2 ∧ C2 w2 xb 24 (.slice X n cX) (.slice Y m cY) ∧ C2 w2 w.heap.size 24 (.slice A n c) (.slice B m d) ∧ NewS w1.heap.size w2 X cX n l ∧ NewS w1.heap.size w2 Y cY m k ∧ Strs w2 A n l ∧ Strs w2 B m k) :=
          ⟨H1.out.1.trans (hB.mono H1.out.1.size), k10, K1.out.below hB, fX, fY, H1.out.2.1.below hB, H1.out.2.2.1.below hB⟩
        have HAW : Hid (0 < n → ∃ b off, A = some ⟨b, off, none⟩ ∧ b < w1.heap.size) := fun h0 => H1.out.2.1.lt h0
        have HW1 : Hid (w.heap.size ≤ w1.heap.size ∧ w1.heap.size ≤ w2.heap.size) := ⟨H1.out.1.size, hB.size⟩
        obtain ⟨p0, p1⟩ := k10.facts
        clear hB k10 fX fY H1 K1
        go_wp2_with fail
        refine (Push_c X Y n cX m cY l s _ H2.out.2.2.2.1.row (by omega) H2.out.2.2.2.1.cap hs).mono ?_
        rintro e w3 ⟨A3, c3, rfl, ho, hb⟩
        have hz3 : ∀ y ∈ l.drop (gone n) ++ [s], y.size ≤ 2000000 := fun y hy => by
          rcases List.mem_append.1 hy with hy | hy
          · exact HZ.out.1 y (List.mem_of_mem_drop hy)
          · simp at hy; subst hy; exact hs
        have H3 : Hid (Below w2.heap.size w2 (w3.alloc (.cells #[.slice A3 (n - gone n + 1) c3, .slice none 0 0] 24)) ∧ C2 (w3.alloc (.cells #[.slice A3 (n - gone n + 1) c3, .slice none 0 0] 24)) w3.heap.size 24 (.slice A3 (n - gone n + 1) c3) (.slice none 0 0) ∧ OwnS (w3.alloc (.cells #[.slice A3 (n - gone n + 1) c3, .slice none 0 0] 24)) w2.heap.size A3 c3 (n - gone n + 1) (l.drop (gone n) ++ [s])) :=
          ⟨hb.alloc hb.size _, C2.newAt _ _ _ rfl, ho.below (below_alloc _ _)⟩
        have HZ3 := Lib.hid hz3
        obtain ⟨p0, p1⟩ := (H2.out.2.1.below hb).facts
        have l0 := (H2.out.2.1.below hb).lt
        clear ho hb hz3
        go_wp2_with fail
        generalize w3.alloc (.cells #[.slice A3 (n - gone n + 1) c3, .slice none 0 0] 24) = W3 at *
        clear p0 p1 l0
        refine (Undo_drop X Y n cX m cY l k s _ (H2.out.2.2.2.1.row.below H3.out.1) (H2.out.2.2.2.2.1.row.below H3.out.1) (by omega) (by omega) hs H2.out.2.2.2.1.cap).mono ?_
        rintro e w4 ⟨v4, rfl, hb⟩
        have H4 : Hid (Below w2.heap.size w2 w4 ∧ C2 w4 w3.heap.size 24 (.slice A3 (n - gone n + 1) c3) (.slice none 0 0) ∧ OwnS w4 w2.heap.size A3 c3 (n - gone n + 1) (l.drop (gone n) ++ [s])) := ⟨H3.out.1.trans (hb.mono H3.out.1.size), H3.out.2.1.below hb, H3.out.2.2.below hb⟩
        obtain ⟨p0, p1⟩ := (H2.out.2.1.below H4.out.1).facts
        clear hb H3
        go_wp2_with fail
        refine (Redo_drop X Y n cX m cY l k s _ (H2.out.2.2.2.1.row.below H4.out.1) (H2.out.2.2.2.2.1.row.below H4.out.1) (by omega) (by omega) hs H2.out.2.2.2.2.1.cap).mono ?_
        rintro e w5 ⟨v5, rfl, hb⟩
        have H5 : Hid (Below w2.heap.size w2 w5 ∧ C2 w5 w3.heap.size 24 (.slice A3 (n - gone n + 1) c3) (.slice none 0 0) ∧ OwnS w5 w2.heap.size A3 c3 (n - gone n + 1) (l.drop (gone n) ++ [s])) := ⟨H4.out.1.trans (hb.mono H4.out.1.size), H4.out.2.1.below hb, H4.out.2.2.below hb⟩
        obtain ⟨p0, p1⟩ := (H2.out.2.1.below H5.out.1).facts
        obtain ⟨h0, h1⟩ := (H2.out.2.2.1.below H5.out.1).facts
        clear hb H4
        go_wp2_with fail
        refine (Same_c X Y A B n cX m cY c d l k _ (H2.out.2.2.2.1.row.below H5.out.1) (H2.out.2.2.2.2.1.row.below H5.out.1) (H2.out.2.2.2.2.2.1.below H5.out.1) (H2.out.2.2.2.2.2.2.below H5.out.1) (by omega) (by omega)).mono ?_
        rintro e w6 ⟨rfl, hb⟩
        have hB6 := H5.out.1.trans (hb.mono H5.out.1.size)
        have HL0 : Hid (Below w.heap.size w w6 ∧ C2 w6 xb 24 (.slice X n cX) (.slice Y m cY) ∧ C2 w6 w.heap.size 24 (.slice A n c) (.slice B m d) ∧ C2 w6 w3.heap.size 24 (.slice A3 (n - gone n + 1) c3) (.slice none 0 0)
            ∧ Strs w6 A n l ∧ Strs w6 A3 (n - gone n + 1) (l.drop (gone n) ++ [s]) ∧ (0 < n → ∃ g L, X = some ⟨g, 0, none⟩ ∧ w1.heap.size ≤ g ∧ g < w2.heap.size ∧ OwnS w6 w1.heap.size X cX n L)) :=
          ⟨H2.out.1.trans (hB6.mono H2.out.1.size), H2.out.2.1.below hB6, H2.out.2.2.1.below hB6, H5.out.2.1.below hb, H2.out.2.2.2.2.2.1.below hB6, (H5.out.2.2.below hb).strs HZ3.out, fun h0 => by
            obtain ⟨g, e, g1, g2⟩ := (H2.out.2.2.2.1.own h0).form h0
            exact ⟨g, l, e, g1, g2, (H2.out.2.2.2.1.own h0).below hB6⟩⟩
        have HA3 : Hid (∀ ad, A3 = some ad → w2.heap.size ≤ ad.block) := fun ad e => (H5.out.2.2.lt' ad e).1
        clear hb hB6 h0 h1 p0 p1
        have n0 : (0 : Int) ≤ (n : Int) := by omega
        go_wp2
        go_loopw [7] (fun iv wr => ∃ i : Nat, i ≤ n ∧ iv = .int .i64 i ∧ Hid (Below w.heap.size w wr ∧ C2 wr xb 24 (.slice X n cX) (.slice Y m cY) ∧ C2 wr w.heap.size 24 (.slice A n c) (.slice B m d) ∧ C2 wr w3.heap.size 24 (.slice A3 (n - gone n + 1) c3) (.slice none 0 0)
            ∧ Strs wr A n l ∧ Strs wr A3 (n - gone n + 1) (l.drop (gone n) ++ [s]) ∧ (0 < n → ∃ g L, X = some ⟨g, 0, none⟩ ∧ w1.heap.size ≤ g ∧ g < w2.heap.size ∧ OwnS wr w1.heap.size X cX n L))) (fun iv _ => n - (intOf iv).toNat)
        case atStart => exact ⟨0, Nat.zero_le _, rfl, HL0⟩
        case round =>
          clear HL0
          obtain ⟨i, hi, rfl, HR⟩ := hrel
          have i0 : (0 : Int) ≤ (i : Int) := by omega
          obtain ⟨p0, p1⟩ := HR.out.2.1.facts
          by_cases hlt : i < n
          · have i1 : (i : Int) < (n : Int) := by omega
            obtain ⟨g, L, rfl, hg1, hg2, ho⟩ := HR.out.2.2.2.2.2.2 (by omega)
            obtain ⟨x, hx⟩ : ∃ x, L[i]? = some x := ⟨_, List.getElem?_eq_getElem (by rw [ho.len]; omega)⟩
            have c0 := ho.cell hx
            have t0 := ho.thaw i
            have HN : Hid (Below w.heap.size w (wr.setCell ⟨g, i, none⟩ (.string ⟨#[115, 112, 111, 105, 108, 116]⟩)) ∧ C2 (wr.setCell ⟨g, i, none⟩ (.string ⟨#[115, 112, 111, 105, 108, 116]⟩)) xb 24 (.slice (some ⟨g, 0, none⟩) n cX) (.slice Y m cY) ∧ C2 (wr.setCell ⟨g, i, none⟩ (.string ⟨#[115, 112, 111, 105, 108, 116]⟩)) w.heap.size 24 (.slice A n c) (.slice B m d) ∧ C2 (wr.setCell ⟨g, i, none⟩ (.string ⟨#[115, 112, 111, 105, 108, 116]⟩)) w3.heap.size 24 (.slice A3 (n - gone n + 1) c3) (.slice none 0 0)
                ∧ Strs (wr.setCell ⟨g, i, none⟩ (.string ⟨#[115, 112, 111, 105, 108, 116]⟩)) A n l ∧ Strs (wr.setCell ⟨g, i, none⟩ (.string ⟨#[115, 112, 111, 105, 108, 116]⟩)) A3 (n - gone n + 1) (l.drop (gone n) ++ [s]) ∧ (0 < n → ∃ g' L, (some ⟨g, 0, none⟩ : Option Addr) = some ⟨g', 0, none⟩ ∧ w1.heap.size ≤ g' ∧ g' < w2.heap.size ∧ OwnS (wr.setCell ⟨g, i, none⟩ (.string ⟨#[115, 112, 111, 105, 108, 116]⟩)) w1.heap.size (some ⟨g, 0, none⟩) cX n L)) := by
              have h0 : 0 < n := by omega
              refine ⟨HR.out.1.setCell (p := ⟨g, i, none⟩) (by have := HW1.out.1; show w.heap.size ≤ g; omega) _, HR.out.2.1.setS ho h0 (by decide) _ _, HR.out.2.2.1.setS ho h0 (by decide) _ _, HR.out.2.2.2.1.setS ho h0 (by decide) _ _, HR.out.2.2.2.2.1.other _ ?_, HR.out.2.2.2.2.2.1.other _ ?_, fun _ => ⟨g, _, rfl, hg1, hg2, ho.set i _⟩⟩
              · intro ad e
                obtain ⟨b, off, e2, hb2⟩ := HAW.out h0
                rw [e2] at e; injection e with e; subst e
                show b ≠ g; omega
              · intro ad e
                have := HA3.out ad e
                show ad.block ≠ g; omega
            clear hx ho
            go_wp2
            go_roundw
            case rel => exact ⟨i + 1, by omega, by go_num, HN⟩
            case measure => simp [intOf]; omega
          · have i1 : ¬ (i : Int) < (n : Int) := by omega
            have H6 := Lib.hid (And.intro HR.out.1 HR.out.2.2)
            clear HR
            go_wp2
            obtain ⟨h0, h1⟩ := H6.out.2.1.facts
            obtain ⟨q0, q1⟩ := H6.out.2.2.1.facts
            clear p0 p1
            have mk0 : True := trivial
            go_region_held3 (fun w' => w'.cell? ⟨w.heap.size, 0, none⟩ = some (.slice A n c) ∧ w'.cell? ⟨w.heap.size, 1, none⟩ = some (.slice B m d) ∧ w'.cell? ⟨w3.heap.size, 0, none⟩ = some (.slice A3 (n - gone n + 1) c3) ∧ w'.cell? ⟨w3.heap.size, 1, none⟩ = some (.slice none 0 0)) (go_keep)
              (first
              | (go_at_call 18
                 clear mk0
                 refine (rPush_c A B n c m d l s _ (H6.out.2.2.2.1.below (bel1 wr)) (by omega) hs).mono ?_
                 rintro e w7 ⟨A7, c7, rfl, ho, hb⟩
                 have hbW := (bel1 wr).trans hb
                 have H7 := Lib.hid (And.intro ho hbW)
                 obtain ⟨h0, h1⟩ := (H6.out.2.1.below hbW).facts
                 obtain ⟨q0, q1⟩ := (H6.out.2.2.1.below hbW).facts
                 have mk1 : True := trivial
                 clear ho hb hbW)
              | (go_at_call 14
                 clear mk1
                 refine (same_c A3 none A7 none (n - gone n + 1) c3 0 0 c7 0 (l.drop (gone n) ++ [s]) [] _ (H6.out.2.2.2.2.1.below H7.out.2) (Strs.nil_ _ _) H7.out.1 (Strs.nil_ _ _) (by omega) (by omega)).mono ?_
                 rintro e w8 ⟨rfl, hb⟩
                 have hbW := H7.out.2.trans (hb.mono H7.out.2.size)
                 have H8 := Lib.hid hbW
                 obtain ⟨h0, h1⟩ := (H6.out.2.1.below hbW).facts
                 obtain ⟨q0, q1⟩ := (H6.out.2.2.1.below hbW).facts
                 have mk2 : True := trivial
                 clear hb hbW)
              | (go_at_call 12
                 clear mk2
                 refine (known_c _).mono ?_
                 rintro e w9 ⟨rfl, hb⟩
                 have hbW := H8.out.trans (hb.mono H8.out.size)
                 have H9 := Lib.hid hbW
                 obtain ⟨h0, h1⟩ := (H6.out.2.1.below hbW).facts
                 obtain ⟨q0, q1⟩ := (H6.out.2.2.1.below hbW).facts
                 have mk3 : True := trivial
                 clear hb hbW))
            go_wp2
            go_ret
            exact ⟨rfl, H6.out.1.trans (H9.out.mono H6.out.1.size)⟩
end Go.Proofs.Ytaifgehmlfjljaa
