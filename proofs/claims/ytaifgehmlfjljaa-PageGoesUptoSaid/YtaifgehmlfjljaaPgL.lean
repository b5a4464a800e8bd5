/-
  The jump to a page of a name, by the program and by the document.
-/
import Derived.Test.YtaifgehmlfjljaaPgK
namespace Go.Proofs.Ytaifgehmlfjljaa
set_option maxRecDepth 20000
open Go.RowKit Go.Maps Go.WideMaps

/-- The page of a place has the name. -/
def jmIs (pg : List (ByteArray × ByteArray)) (s : ByteArray) (i : Nat) : Prop := ∃ x, pg[i]? = some x ∧ x.1.data.toList = s.data.toList
/-- What IndexFunc tells. -/
def IxIs (pg : List (ByteArray × ByteArray)) (s : ByteArray) (v : Int) : Prop :=
  (∃ i : Nat, v = (i : Int) ∧ jmIs pg s i ∧ ∀ j, j < i → ¬ jmIs pg s j) ∨ (v = -1 ∧ ∀ j, ¬ jmIs pg s j)
/-- What Jump tells. -/
def JmIs (r : List Bool) (pg : List (ByteArray × ByteArray)) (s : ByteArray) (v c : Int) : Prop :=
  (∃ i : Nat, (jmIs pg s i ∧ ∀ j, j < i → ¬ jmIs pg s j) ∧ ((r[i]? = some true ∧ v = (i : Int) ∧ c = 0) ∨ (r[i]? = some false ∧ v = -1 ∧ c = 12))) ∨ ((∀ j, ¬ jmIs pg s j) ∧ v = -1 ∧ c = 5)
def JmPost (r : List Bool) (pg : List (ByteArray × ByteArray)) (s : ByteArray) (e : Ending) : Prop := ∃ v c : Int, e = .returned (.tuple #[.int .i64 v, .int .i64 c]) ∧ JmIs r pg s v c
theorem jm_one {pg : List (ByteArray × ByteArray)} {s : ByteArray} {i j : Nat} (h : jmIs pg s i ∧ ∀ k, k < i → ¬ jmIs pg s k) (h' : jmIs pg s j ∧ ∀ k, k < j → ¬ jmIs pg s k) : i = j := by
  rcases Nat.lt_trichotomy i j with h1 | h1 | h1
  · exact absurd h.1 (h'.2 i h1)
  · exact h1
  · exact absurd h'.1 (h.2 j h1)
theorem JmIs.one {r : List Bool} {pg : List (ByteArray × ByteArray)} {s : ByteArray} {v c v' c' : Int} (h : JmIs r pg s v c) (h' : JmIs r pg s v' c') : v = v' ∧ c = c' := by
  rcases h with ⟨i, hi, h⟩ | ⟨hn, rfl, rfl⟩
  · rcases h' with ⟨j, hj, h'⟩ | ⟨hn, _⟩
    · obtain rfl := jm_one hi hj
      rcases h with ⟨h1, rfl, rfl⟩ | ⟨h1, rfl, rfl⟩
      · rcases h' with ⟨h2, rfl, rfl⟩ | ⟨h2, rfl, rfl⟩
        · exact ⟨rfl, rfl⟩
        · rw [h1] at h2; cases h2
      · rcases h' with ⟨h2, rfl, rfl⟩ | ⟨h2, rfl, rfl⟩
        · rw [h1] at h2; cases h2
        · exact ⟨rfl, rfl⟩
    · exact absurd hi.1 (hn i)
  · rcases h' with ⟨j, hj, _⟩ | ⟨_, rfl, rfl⟩
    · exact absurd hj.1 (hn j)
    · exact ⟨rfl, rfl⟩
set_option maxHeartbeats 6400000 in
theorem rJump_c (f : Fv) (its : List SwI) (pg : List (ByteArray × ByteArray)) (O : Option Addr) (on oc : Nat) (ol : List Bool) (s : ByteArray) (w : World) (hf : Frm w f its pg) (ho : Bls w O on ol) (hon : on ≤ 1500000) :
    Calls Try.prog 27 #[.agg #[.slice f.a1 f.n1 f.c1, .slice f.a2 f.n2 f.c2, .slice f.a3 f.n3 f.c3, .slice f.a4 f.n4 f.c4, .slice f.a5 f.n5 f.c5, .slice f.a6 f.n6 f.c6], .slice O on oc, .string s] w fun e w' => JmPost (pg.map fun x => relv its ol x.2) pg s e ∧ Below w.heap.size w w' := by
  have HB : Hid (Below w.heap.size w (w.alloc (.cells #[.slice f.a1 f.n1 f.c1, .slice f.a2 f.n2 f.c2, .slice f.a3 f.n3 f.c3, .slice f.a4 f.n4 f.c4, .slice f.a5 f.n5 f.c5, .slice f.a6 f.n6 f.c6] 44))) := below_alloc _ _
  have HF := Lib.hid (And.intro (F6.newAt (w := w) f rfl) (And.intro (hf.below HB.out) (ho.below HB.out)))
  have n0 : (0 : Int) ≤ (f.n3 : Int) := by omega
  have n9 : (f.n3 : Int) ≤ 1500000 := by have := hf.n3; omega
  have HL := Lib.hid hf.pg.len
  obtain ⟨a0, a1, a2, a3, a4, a5⟩ := HF.out.1.facts
  obtain ⟨r, hr⟩ : ∃ r, (pg.map fun x => relv its ol x.2) = r := ⟨_, rfl⟩
  rw [hr]
  have HRR := Lib.hid hr
  clear hf ho hr
  go_enter Try.func27, Try.ntmps27
  go_wp2_with fail
  generalize w.alloc (.cells #[.slice f.a1 f.n1 f.c1, .slice f.a2 f.n2 f.c2, .slice f.a3 f.n3 f.c3, .slice f.a4 f.n4 f.c4, .slice f.a5 f.n5 f.c5, .slice f.a6 f.n6 f.c6] 44) = W at *
  refine (rRelevantB_c f its pg O on oc ol _ HF.out.2.1 HF.out.2.2 hon).mono ?_
  rintro e w1 ⟨RA, rc, rfl, hrow, hb⟩
  rw [HRR.out] at hrow
  have H1 : Hid (Bls w1 RA f.n3 r ∧ Below w.heap.size w w1) := ⟨hrow, HB.out.trans (hb.mono HB.out.size)⟩
  have HG : Hid (F6 w1 w.heap.size f ∧ Frm w1 f its pg) := ⟨HF.out.1.below hb, HF.out.2.1.below hb⟩
  clear hrow hb a0 a1 a2 a3 a4 a5 HF HB
  have hrl : Hid (r.length = f.n3) := by show _ = _; rw [← HRR.out, List.length_map]; exact HL.out
  go_wp2
  go_loopw [9] (fun iv wr => wr = w1 ∧ ∃ i : Nat, i ≤ f.n3 ∧ iv = .int .i64 i ∧ Hid (∀ j, j < i → ¬ jmIs pg s j)) (fun iv _ => f.n3 - (intOf iv).toNat)
  case atStart => exact ⟨rfl, 0, Nat.zero_le _, rfl, fun j hj => absurd hj (Nat.not_lt_zero _)⟩
  case round =>
    obtain ⟨hw9, i, hi, rfl, HI⟩ := hrel
    obtain rfl : w1 = wr := hw9.symm
    have i0 : (0 : Int) ≤ (i : Int) := by omega
    obtain ⟨a0, a1, a2, a3, a4, a5⟩ := HG.out.1.facts
    by_cases hlt : i < f.n3
    · have i1 : (i : Int) < (f.n3 : Int) := by omega
      obtain ⟨b, off, ea, hbl, hc⟩ := HG.out.2.pg.mem (by omega)
      obtain ⟨⟨nm, wh⟩, hx⟩ : ∃ x, pg[i]? = some x := ⟨_, List.getElem?_eq_getElem (by rw [HL.out]; omega)⟩
      obtain ⟨c0, c1⟩ := hc i _ hx
      dsimp only at c0 c1
      rw [ea] at a2
      have HX : Hid (nm.data.toList = s.data.toList → jmIs pg s i) := fun h => ⟨_, hx, h⟩
      have HY : Hid (¬ nm.data.toList = s.data.toList → ¬ jmIs pg s i) := fun h ⟨y, hy, e⟩ => by
        rw [hx] at hy; injection hy with hy; subst hy; exact h e
      clear hc hx hbl ea
      by_cases hs : nm.data.toList = s.data.toList
      · have hs2 := seq_true hs
        have HN : Hid (jmIs pg s i ∧ ∀ j, j < i → ¬ jmIs pg s j) := ⟨HX.out hs, HI.out⟩
        obtain ⟨x, hx⟩ : ∃ x, r[i]? = some x := ⟨_, List.getElem?_eq_getElem (by rw [hrl.out]; omega)⟩
        obtain ⟨b2, off2, ea, hbl, hc⟩ := H1.out.1.mem (by omega)
        subst ea
        have e0 := hc i x hx
        have HX2 := Lib.hid hx
        clear hx hc hbl
        cases x with
        | true =>
          go_wp2
          go_ret2
          exact ⟨⟨_, _, rfl, .inl ⟨i, HN.out, .inl ⟨HX2.out, rfl, rfl⟩⟩⟩, H1.out.2⟩
        | false =>
          go_wp2
          go_ret2
          exact ⟨⟨_, _, rfl, .inl ⟨i, HN.out, .inr ⟨HX2.out, rfl, rfl⟩⟩⟩, H1.out.2⟩
      · have hs2 := seq_false hs
        have HN : Hid (∀ j, j < i + 1 → ¬ jmIs pg s j) := fun j hj => by
          by_cases e : j = i
          · subst e; exact HY.out hs
          · exact HI.out j (by omega)
        go_wp2
        go_roundw
        case rel => exact ⟨by first | exact rfl | trivial, i + 1, by omega, by go_num, HN⟩
        case measure => simp [intOf]; omega
    · have i1 : ¬ (i : Int) < (f.n3 : Int) := by omega
      have HN : Hid (∀ j, ¬ jmIs pg s j) := fun j hj => by
        obtain ⟨x, hx, _⟩ := id hj
        have := (List.getElem?_eq_some_iff.1 hx).1
        exact HI.out j (by have := HL.out; omega) hj
      go_wp2
      go_ret2
      exact ⟨⟨_, _, rfl, .inr ⟨HN.out, rfl, rfl⟩⟩, H1.out.2⟩
theorem cell_lt14 {w : World} {X : Nat} {v : Value} (h : w.cell? ⟨X, 0, none⟩ = some v) : X < w.heap.size := by
  rcases Nat.lt_or_ge X w.heap.size with h1 | h1
  · exact h1
  · have e : w.heap[X]? = none := Array.getElem?_eq_none h1
    simp [World.cell?, e] at h
set_option maxHeartbeats 6400000 in
theorem isName_c (nm wh s : ByteArray) (X : Nat) (w : World) (hX : w.cell? ⟨X, 0, none⟩ = some (.string s)) :
    Calls Try.prog 42 #[.agg #[.string nm, .string wh], .pointer (some ⟨X, 0, none⟩)] w fun e w' => e = .returned (.bool (nm.toList == s.toList)) ∧ Below w.heap.size w w' := by
  have hl := cell_lt14 hX
  have HB : Hid (Below w.heap.size w (w.alloc (.cells #[.string nm, .string wh] 66))) := below_alloc _ _
  have hX2 : (w.alloc (.cells #[.string nm, .string wh] 66)).cell? ⟨X, 0, none⟩ = some (.string s) := (HB.out.cell (p := ⟨X, 0, none⟩) hl).trans hX
  have z0 : (w.alloc (.cells #[.string nm, .string wh] 66)).cell? ⟨w.heap.size, 0, none⟩ = some (.string nm) := by rw [cell_at (heap_alloc_new w _)]; rfl
  have z1 : (w.alloc (.cells #[.string nm, .string wh] 66)).cell? ⟨w.heap.size, 1, none⟩ = some (.string wh) := by rw [cell_at (heap_alloc_new w _)]; rfl
  clear hX hl
  go_enter Try.func42, Try.ntmps42
  go_wp2
  go_ret
  exact ⟨rfl, HB.out⟩
set_option maxHeartbeats 6400000 in
theorem IndexPage_c (A : Option Addr) (n c : Nat) (pg : List (ByteArray × ByteArray)) (X : Nat) (s : ByteArray) (w : World) (ha : Pgs w A n pg) (hn : n ≤ 1500000) (hX : w.cell? ⟨X, 0, none⟩ = some (.string s)) :
    Calls Try.prog 41 #[.slice A n c, .func (.func 42) #[] #[.pointer (some ⟨X, 0, none⟩)]] w fun e w' => (∃ k : Int, e = .returned (.int .i64 k) ∧ IxIs pg s k) ∧ Below w.heap.size w w' := by
  have n0 : (0 : Int) ≤ (n : Int) := by omega
  have HD := Lib.hid (And.intro ha (And.intro hX (cell_lt14 hX)))
  clear ha hX
  have HR0 : Hid ((∀ j, j < 0 → ¬ jmIs pg s j) ∧ Below w.heap.size w w) := ⟨fun j hj => absurd hj (Nat.not_lt_zero _), Below.refl _ _⟩
  go_enter Try.func41, Try.ntmps41
  go_wp2
  go_loopw [5, 8] (fun _ iv wr => ∃ i : Nat, i ≤ n ∧ iv = .int .i64 i ∧ Hid ((∀ j, j < i → ¬ jmIs pg s j) ∧ Below w.heap.size w wr)) (fun _ iv _ => n - (intOf iv).toNat)
  case atStart => exact ⟨0, Nat.zero_le _, rfl, HR0⟩
  case round =>
    clear HR0
    obtain ⟨i, hi, rfl, HR⟩ := hrel
    have i0 : (0 : Int) ≤ (i : Int) := by omega
    by_cases hlt : i < n
    · have i1 : (i : Int) < (n : Int) := by omega
      obtain ⟨g, off, hA, hg, hc⟩ := (HD.out.1.below HR.out.2).mem (by omega)
      obtain ⟨⟨nm, wh⟩, hx⟩ : ∃ x, pg[i]? = some x := ⟨_, List.getElem?_eq_getElem (by rw [HD.out.1.len]; omega)⟩
      obtain ⟨y0, y1⟩ := hc i _ hx
      dsimp only at y0 y1
      have HX : Hid (nm.data.toList = s.data.toList → jmIs pg s i) := fun h => ⟨_, hx, h⟩
      have HY : Hid (¬ nm.data.toList = s.data.toList → ¬ jmIs pg s i) := fun h ⟨y, hy, e⟩ => by
        rw [hx] at hy; injection hy with hy; subst hy; exact h e
      rw [hA]
      clear hc hx hg
      go_wp2_with fail
      clear y0 y1
      refine (isName_c nm wh s X wr ((HR.out.2.cell HD.out.2.2).trans HD.out.2.1)).mono ?_
      rintro e w2 ⟨rfl, hb⟩
      have HB : Hid (Below w.heap.size w w2) := HR.out.2.trans (hb.mono HR.out.2.size)
      clear hb
      by_cases hxv : nm.data.toList = s.data.toList
      · have HN : Hid (jmIs pg s i ∧ ∀ j, j < i → ¬ jmIs pg s j) := ⟨HX.out hxv, HR.out.1⟩
        rw [seq_true hxv]
        clear hxv
        go_wp2
        go_ret
        exact ⟨⟨_, rfl, .inl ⟨i, rfl, HN.out⟩⟩, HB.out⟩
      · have HS : Hid ((∀ j, j < i + 1 → ¬ jmIs pg s j) ∧ Below w.heap.size w w2) := ⟨fun j hj => by
          by_cases e : j = i
          · subst e; exact HY.out hxv
          · exact HR.out.1 j (by omega), HB.out⟩
        rw [seq_false hxv]
        clear hxv
        go_wp2
        go_roundw
        case rel => exact ⟨i + 1, by omega, by go_num, HS⟩
        case measure => simp [intOf]; omega
    · have i1 : ¬ (i : Int) < (n : Int) := by omega
      have HN : Hid (∀ j, ¬ jmIs pg s j) := fun j hj => by
        obtain ⟨x, hx, _⟩ := id hj
        have := (List.getElem?_eq_some_iff.1 hx).1
        exact HR.out.1 j (by have := HD.out.1.len; omega) hj
      go_wp2
      go_ret
      exact ⟨⟨_, rfl, .inr ⟨rfl, HN.out⟩⟩, HR.out.2⟩
set_option maxHeartbeats 6400000 in
theorem Jump_c (f : Fv) (its : List SwI) (pg : List (ByteArray × ByteArray)) (O : Option Addr) (on oc : Nat) (ol : List Bool) (s : ByteArray) (w : World) (hf : Frm w f its pg) (ho : Bls w O on ol) (hon : on ≤ 1500000) :
    Calls Try.prog 26 #[.agg #[.slice f.a1 f.n1 f.c1, .slice f.a2 f.n2 f.c2, .slice f.a3 f.n3 f.c3, .slice f.a4 f.n4 f.c4, .slice f.a5 f.n5 f.c5, .slice f.a6 f.n6 f.c6], .slice O on oc, .string s] w fun e w' => JmPost (pg.map fun x => relv its ol x.2) pg s e ∧ Below w.heap.size w w' := by
  have HB : Hid (Below w.heap.size w ((w.alloc (.cells #[.slice f.a1 f.n1 f.c1, .slice f.a2 f.n2 f.c2, .slice f.a3 f.n3 f.c3, .slice f.a4 f.n4 f.c4, .slice f.a5 f.n5 f.c5, .slice f.a6 f.n6 f.c6] 44)).alloc (.cells #[.string s] 9))) := (below_alloc _ _).alloc (by simp) _
  have hF := (F6.newAt (w := w) f rfl).below (below_alloc _ (.cells #[.string s] 9))
  have hX : ((w.alloc (.cells #[.slice f.a1 f.n1 f.c1, .slice f.a2 f.n2 f.c2, .slice f.a3 f.n3 f.c3, .slice f.a4 f.n4 f.c4, .slice f.a5 f.n5 f.c5, .slice f.a6 f.n6 f.c6] 44)).alloc (.cells #[.string s] 9)).cell? ⟨w.heap.size + 1, 0, none⟩ = some (.string s) := by
    have h := heap_alloc_new (w.alloc (.cells #[.slice f.a1 f.n1 f.c1, .slice f.a2 f.n2 f.c2, .slice f.a3 f.n3 f.c3, .slice f.a4 f.n4 f.c4, .slice f.a5 f.n5 f.c5, .slice f.a6 f.n6 f.c6] 44)) (.cells #[.string s] 9)
    rw [World.size_alloc] at h
    rw [cell_at h]; rfl
  have HF := Lib.hid (And.intro hF (And.intro (hf.below HB.out) (And.intro (ho.below HB.out) hX)))
  have n0 : (0 : Int) ≤ (f.n3 : Int) := by omega
  have n9 : (f.n3 : Int) ≤ 1500000 := by have := hf.n3; omega
  have HL := Lib.hid (And.intro hf.pg.len hf.n3)
  obtain ⟨a0, a1, a2, a3, a4, a5⟩ := HF.out.1.facts
  obtain ⟨r, hr⟩ : ∃ r, (pg.map fun x => relv its ol x.2) = r := ⟨_, rfl⟩
  rw [hr]
  have HRR := Lib.hid hr
  clear hf ho hr hF hX
  go_enter Try.func26, Try.ntmps26
  go_wp2_with fail
  generalize (w.alloc (.cells #[.slice f.a1 f.n1 f.c1, .slice f.a2 f.n2 f.c2, .slice f.a3 f.n3 f.c3, .slice f.a4 f.n4 f.c4, .slice f.a5 f.n5 f.c5, .slice f.a6 f.n6 f.c6] 44)).alloc (.cells #[.string s] 9) = W at *
  refine (IndexPage_c f.a3 f.n3 f.c3 pg (w.heap.size + 1) s W HF.out.2.1.pg HL.out.2 HF.out.2.2.2).mono ?_
  rintro e w1 ⟨⟨k, rfl, hk⟩, hb⟩
  have H1 : Hid (Below W.heap.size W w1) := hb
  clear hb a0 a1 a2 a3 a4 a5
  obtain ⟨a0, a1, a2, a3, a4, a5⟩ := (HF.out.1.below H1.out).facts
  have HBW : Hid (∀ w', Below W.heap.size W w' → Below w.heap.size w w') := fun w' h => HB.out.trans (h.mono HB.out.size)
  rcases hk with ⟨i, rfl, hi⟩ | ⟨rfl, hno⟩
  · have HI := Lib.hid hi
    have i0 : (0 : Int) ≤ (i : Int) := by omega
    have i2 : ¬ (i : Int) < 0 := by omega
    have hin : i < f.n3 := by
      obtain ⟨x, hx, _⟩ := hi.1
      have := (List.getElem?_eq_some_iff.1 hx).1
      have := HL.out.1; omega
    have i1 : (i : Int) < (f.n3 : Int) := by omega
    clear hi
    go_wp2_with fail
    refine (RelevantB_c f its pg O on oc ol _ (HF.out.2.1.below H1.out) (HF.out.2.2.1.below H1.out) hon).mono ?_
    rintro e w2 ⟨RA, rc, rfl, hrow, hb⟩
    rw [HRR.out] at hrow
    have H2 : Hid (Bls w2 RA f.n3 r ∧ Below W.heap.size W w2) := ⟨hrow, H1.out.trans (hb.mono H1.out.size)⟩
    have hrl : Hid (r.length = f.n3) := by show _ = _; rw [← HRR.out, List.length_map]; exact HL.out.1
    clear hrow hb a0 a1 a2 a3 a4 a5
    obtain ⟨x, hx⟩ : ∃ x, r[i]? = some x := ⟨_, List.getElem?_eq_getElem (by rw [hrl.out]; omega)⟩
    obtain ⟨b2, off2, ea, hbl, hc⟩ := H2.out.1.mem (by omega)
    subst ea
    have e0 := hc i x hx
    have HX2 := Lib.hid hx
    clear hx hc hbl
    cases x with
    | true =>
      go_wp2
      go_ret2
      exact ⟨⟨_, _, rfl, .inl ⟨i, HI.out, .inl ⟨HX2.out, rfl, rfl⟩⟩⟩, HBW.out _ H2.out.2⟩
    | false =>
      go_wp2
      go_ret2
      exact ⟨⟨_, _, rfl, .inl ⟨i, HI.out, .inr ⟨HX2.out, rfl, rfl⟩⟩⟩, HBW.out _ H2.out.2⟩
  · have HN := Lib.hid hno
    clear hno
    go_wp2
    go_ret2
    exact ⟨⟨_, _, rfl, .inr ⟨HN.out, rfl, rfl⟩⟩, HBW.out _ H1.out⟩
end Go.Proofs.Ytaifgehmlfjljaa
