/-
  The program's look through a tree: a set of names made, the walk itself.
-/
import Derived.Test.YtcmkgoikmleanaaCkW
namespace Go.Proofs.Ytcmkgoikmleanaa
set_option maxRecDepth 20000
open Go.RowKit Go.Maps Go.WideMaps

/-- A row of names. -/
structure Strs (w : World) (A : Option Addr) (n : Nat) (ss : List ByteArray) : Prop where
  len : ss.length = n
  sz : ∀ i, (ss.getD i ByteArray.empty).size ≤ 1000000000000000
  mem : 0 < n → ∃ b off, A = some ⟨b, off, none⟩ ∧ b < w.heap.size ∧ ∀ j, j < n → w.cell? ⟨b, off + j, none⟩ = some (.string (ss.getD j ByteArray.empty))
theorem Strs.below {w w' : World} {A : Option Addr} {n : Nat} {ss : List ByteArray} (h : Strs w A n ss) (hb : Below w.heap.size w w') : Strs w' A n ss :=
  ⟨h.len, h.sz, fun hn => by
    obtain ⟨b, off, e, h1, hc⟩ := h.mem hn
    exact ⟨b, off, e, Nat.lt_of_lt_of_le h1 hb.size, fun j hj => (hb.cell (p := ⟨b, off + j, none⟩) h1).trans (hc j hj)⟩⟩
theorem Strs.take {w : World} {A : Option Addr} {n : Nat} {ss : List ByteArray} (h : Strs w A n ss) (k : Nat) (hk : k ≤ n) : Strs w A k (ss.take k) :=
  ⟨by rw [List.length_take, h.len]; omega, fun i => by
    by_cases hi : i < k
    · have := h.sz i
      simpa [List.getD, List.getElem?_take, hi] using this
    · have : (ss.take k)[i]? = none := List.getElem?_eq_none (by rw [List.length_take]; omega)
      simp [List.getD, this], fun hn => by
    obtain ⟨b, off, e, h1, hc⟩ := h.mem (by omega)
    exact ⟨b, off, e, h1, fun j hj => by rw [hc j (by omega)]; simp [List.getD, hj]⟩⟩
theorem SetAt.below {w w' : World} {b : Nat} {l : List ByteArray} (h : SetAt w b l) (hb : Below w.heap.size w w') : SetAt w' b l := by
  obtain ⟨⟨es, clock, h1, r⟩, h2⟩ := h
  exact ⟨⟨es, clock, (hb.block b h2).trans h1, r⟩, Nat.lt_of_lt_of_le h2 hb.size⟩
theorem take_snocS (ss : List ByteArray) (k : Nat) (hk : k < ss.length) : ss.take (k + 1) = ss.take k ++ [ss.getD k ByteArray.empty] := by
  rw [List.take_add_one]; simp [List.getD, List.getElem?_eq_getElem hk]
set_option maxHeartbeats 800000 in
theorem setOf_c (A : Option Addr) (n c : Nat) (ss : List ByteArray) (w : World) (h : Strs w A n ss) (hn : n ≤ 1000000) :
    Calls Try.prog 41 #[.slice A n c] w fun e w' => ∃ mb, e = .returned (.map (some mb)) ∧ w.heap.size ≤ mb ∧ SetAt w' mb ss ∧ Below w.heap.size w w' := by
  have hmm := @run_makeMap Try.prog
  obtain ⟨hlen, hsz, hmem⟩ := h
  have hTAKE : Hid (ss.take n = ss) := by show _ = _; rw [← hlen, List.take_length]
  have HLEN := Lib.hid hlen
  have HM := Lib.hid hmem
  have HSZ := Lib.hid hsz
  clear hlen hmem hsz
  have a9 : (n : Int) ≤ 1000000 := by omega
  go_enter Try.func41, Try.ntmps41
  go_wp2
  go_loopw [9] (fun iv wr => ∃ i : Nat, i ≤ n ∧ iv = .int .i64 i ∧ SetAt wr w.heap.size (ss.take i) ∧ Below w.heap.size w wr) (fun iv _ => n - (intOf iv).toNat)
  case atStart =>
    refine ⟨0, Nat.zero_le _, rfl, ⟨?_, by simp⟩, (Below.refl _ _).alloc (Nat.le_refl _) _⟩
    rw [List.take_zero]; exact World.ownsMap_made _ _ _ _
  case round =>
    obtain ⟨i, hi, rfl, hset, hb⟩ := hrel
    have a0 : (0 : Int) ≤ (i : Int) := by omega
    by_cases hlt : i < n
    · have a1 : (i : Int) < (n : Int) := by omega
      obtain ⟨b, off, rfl, hbw, hc⟩ := HM.out (by omega)
      have hc1 := (hb.cell (p := ⟨b, off + i, none⟩) hbw).trans (hc i hlt)
      have hs1 := HSZ.out i
      have HTS : Hid (ss.take (i + 1) = ss.take i ++ [ss.getD i ByteArray.empty]) := take_snocS ss i (by rw [HLEN.out]; exact hlt)
      obtain ⟨s, hs⟩ : ∃ s, s = ss.getD i ByteArray.empty := ⟨_, rfl⟩
      rw [← hs] at hc1 hs1 HTS
      clear hs hc
      have hl9 : (ss.take i).length ≤ 100000000000000 := by rw [List.length_take]; omega
      go_wp2_with fail
      refine (add_c _ (ss.take i) s _ hset hs1 hl9).mono ?_
      rintro e w1 ⟨rfl, hset1, hgrow⟩
      rw [← HTS.out] at hset1
      have hb1 : Below w.heap.size w w1 := hb.grown hgrow hb.size (fun j hj => by cases hj; exact Nat.le_refl _)
      clear hc1 hl9 hs1
      go_wp2
      go_roundw
      case rel => exact ⟨i + 1, by omega, by go_num, hset1, hb1⟩
      case measure => simp [intOf]; omega
    · have e : i = n := by omega
      have a1 : ¬ (i : Int) < (n : Int) := by omega
      rw [e, hTAKE.out] at hset
      clear e
      go_wp2
      go_ret
      exact ⟨_, rfl, Nat.le_refl _, hset, hb⟩
/-- A block that holds two bools. -/
def C2 (w : World) (b : Nat) (x y : Bool) : Prop := w.heap[b]? = some (.cells #[.bool x, .bool y] 59 (0, 0))
section
variable {w w' : World} {b : Nat} {x y : Bool}
theorem C2.lt (h : C2 w b x y) : b < w.heap.size := by
  rcases Nat.lt_or_ge b w.heap.size with h1 | h1
  · exact h1
  · have : w.heap[b]? = none := Array.getElem?_eq_none h1
    rw [C2, this] at h; cases h
theorem C2.below (h : C2 w b x y) (hb : Below w.heap.size w w') : C2 w' b x y := (hb.block b h.lt).trans h
theorem C2.new (w : World) (x y : Bool) : C2 (w.alloc (.cells #[.bool x, .bool y] 59)) w.heap.size x y := heap_alloc_new w _
theorem C2.alloc (h : C2 w b x y) (o : Obj) : C2 (w.alloc o) b x y := h.below ((Below.refl _ _).alloc (Nat.le_refl _) o)
theorem C2.facts (h : C2 w b x y) : w.cell? ⟨b, 0, none⟩ = some (.bool x) ∧ w.cell? ⟨b, 1, none⟩ = some (.bool y) ∧ w.frozen? ⟨b, 0, none⟩ = false ∧ w.frozen? ⟨b, 1, none⟩ = false := by
  have h' : w.heap[b]? = some (.cells #[.bool x, .bool y] 59 (0, 0)) := h
  refine ⟨?_, ?_, ?_, ?_⟩ <;> simp [World.cell?, World.frozen?, h']
end
theorem C2.set0 {w : World} {b : Nat} {x y : Bool} (h : C2 w b x y) (z : Bool) : C2 (w.setCell ⟨b, 0, none⟩ (.bool z)) b z y := by
  have h' : w.heap[b]? = some (.cells #[.bool x, .bool y] 59 (0, 0)) := h
  unfold C2 World.setCell
  simp [Array.getElem?_modify, h']
theorem C2.set1 {w : World} {b : Nat} {x y : Bool} (h : C2 w b x y) (z : Bool) : C2 (w.setCell ⟨b, 1, none⟩ (.bool z)) b x z := by
  have h' : w.heap[b]? = some (.cells #[.bool x, .bool y] 59 (0, 0)) := h
  unfold C2 World.setCell
  simp [Array.getElem?_modify, h']
theorem C2.other {w : World} {b g j : Nat} {x y : Bool} (h : C2 w b x y) (hg : g ≠ b) (z : Value) : C2 (w.setCell ⟨g, j, none⟩ z) b x y := by
  unfold C2 at *
  show (w.heap.modify g _)[b]? = _
  rw [Array.getElem?_modify, if_neg hg]; exact h
theorem C6.alloc {w : World} {b : Nat} {x0 x1 x2 x3 x4 x5 : Value} (h : C6 w b x0 x1 x2 x3 x4 x5) (o : Obj) : C6 (w.alloc o) b x0 x1 x2 x3 x4 x5 := h.below ((Below.refl _ _).alloc (Nat.le_refl _) o)
theorem C6.other {w : World} {b g j : Nat} {x0 x1 x2 x3 x4 x5 : Value} (h : C6 w b x0 x1 x2 x3 x4 x5) (hg : g ≠ b) (z : Value) : C6 (w.setCell ⟨g, j, none⟩ z) b x0 x1 x2 x3 x4 x5 := by
  unfold C6 at *
  show (w.heap.modify g _)[b]? = _
  rw [Array.getElem?_modify, if_neg hg]; exact h
theorem SetAt.other {w : World} {b g j : Nat} {l : List ByteArray} (h : SetAt w b l) (hg : g ≠ b) (z : Value) : SetAt (w.setCell ⟨g, j, none⟩ z) b l := by
  obtain ⟨h1, h2⟩ := h
  exact ⟨h1.setCell (a := ⟨g, j, none⟩) (Ne.symm hg) z, by simpa using h2⟩
theorem ret2c {fn : Func} {t : Tmp} {R : Ending → World → Prop} {a : Act} {w : World} {b : Nat} {x y : Bool} (hres : fn.results = #[.cell t 59]) (ht : a.tmps.getD t undef = .pointer (some ⟨b, 0, none⟩)) (hd : a.defers = [])
    (hk : C2 w b x y) (hR : R (.returned (.agg #[.bool x, .bool y])) w) : bodyPost Try.prog fn R .ret a w := by
  obtain ⟨q0, q1, g0, g1⟩ := hk.facts
  have ht' : (a.tmps[t]?.getD undef) = .pointer (some ⟨b, 0, none⟩) := by simpa using ht
  refine bodyPost_ret (v := .agg #[.bool x, .bool y]) ?_ hd hR
  simp [results, hres, go_sem, ht', q0, q1]
set_option maxHeartbeats 12800000 in
theorem walk_no (vk : Int) (r : Rv) (st : ByteArray) (K : Option Addr) (n c : Nat) (w0 w : World) (mb : Nat) (l : List ByteArray) (f : Nat → Bool × Bool) (hk : ¬ vk = 2) (hn9 : n ≤ 10000000000000)
    (hkids : ∀ i, i < n → ∃ b off x, K = some ⟨b, off, none⟩ ∧ b < w0.heap.size ∧ At6 w0 b (off + i * 6) x ∧ ∀ w', Below w0.heap.size w0 w' → SetAt w' mb l →
      Calls Try.prog 40 #[.agg #[.int .i64 x.k, .bool x.r.s, .slice x.r.A x.r.n x.r.c, .slice x.r.B x.r.m x.r.d, .string x.s, .slice x.K x.n x.c], .map (some mb)] w' fun e w'' => e = .returned (.agg #[.bool (f i).1, .bool (f i).2]) ∧ Below w'.heap.size w' w'')
    (hb00 : Below w0.heap.size w0 w) (hset : SetAt w mb l) :
    Calls Try.prog 40 #[.agg #[.int .i64 vk, .bool r.s, .slice r.A r.n r.c, .slice r.B r.m r.d, .string st, .slice K n c], .map (some mb)] w fun e w' => e = .returned (.agg #[.bool (loopS vk f (decide (vk = 2) && inL l st, true) n).1, .bool (loopS vk f (decide (vk = 2) && inL l st, true) n).2]) ∧ Below w.heap.size w w' := by
  have k_e := C6.new w (.int .i64 vk) (.bool r.s) (.slice r.A r.n r.c) (.slice r.B r.m r.d) (.string st) (.slice K n c)
  have hb0 := (Below.refl w.heap.size w).alloc (Nat.le_refl _) (.cells #[.int .i64 vk, .bool r.s, .slice r.A r.n r.c, .slice r.B r.m r.d, .string st, .slice K n c] 36)
  have k_r := C2.new (w.alloc (.cells #[.int .i64 vk, .bool r.s, .slice r.A r.n r.c, .slice r.B r.m r.d, .string st, .slice K n c] 36)) false false
  have hb1 := hb0.alloc (by simp) (.cells #[.bool false, .bool false] 59)
  replace k_e := k_e.below ((Below.refl _ _).alloc (Nat.le_refl _) (.cells #[.bool false, .bool false] 59))
  have hset1 := hset.below hb1
  have e1 : (w.alloc (.cells #[.int .i64 vk, .bool r.s, .slice r.A r.n r.c, .slice r.B r.m r.d, .string st, .slice K n c] 36)).heap.size = w.heap.size + 1 := by simp
  rw [e1] at k_r
  clear e1 hb0
  have HK := Lib.hid hkids
  have HKK : Hid (decide (vk = 2) = false) := by show _ = _; exact decide_eq_false hk
  clear hkids
  have b2 : ((vk : Int) == 2) = false := by rw [beq_eq_false_iff_ne]; exact hk
  clear hk
  obtain ⟨e0, e1, e2, e3, e4, e5⟩ := k_e.facts
  obtain ⟨r0, r1, r2, r3⟩ := k_r.facts
  go_enter Try.func40, Try.ntmps40
  have hW : ((w.alloc (.cells #[.int .i64 vk, .bool r.s, .slice r.A r.n r.c, .slice r.B r.m r.d, .string st, .slice K n c] 36)).alloc (.cells #[.bool false, .bool false] 59)).heap.size = w.heap.size + 1 + 1 := by simp
  have k_s := C2.new ((w.alloc (.cells #[.int .i64 vk, .bool r.s, .slice r.A r.n r.c, .slice r.B r.m r.d, .string st, .slice K n c] 36)).alloc (.cells #[.bool false, .bool false] 59)) false true
  rw [hW] at k_s
  clear hW
  have hbs := (Below.refl _ ((w.alloc (.cells #[.int .i64 vk, .bool r.s, .slice r.A r.n r.c, .slice r.B r.m r.d, .string st, .slice K n c] 36)).alloc (.cells #[.bool false, .bool false] 59))).alloc (Nat.le_refl _) (.cells #[.bool false, .bool true] 59)
  replace k_e := k_e.below hbs
  replace k_r := k_r.below hbs
  replace hset1 := hset1.below hbs
  replace hb1 := hb1.trans (hbs.mono hb1.size)
  clear hbs e0 e1 e2 e3 e4 e5 r0 r1 r2 r3
  obtain ⟨e0, e1, e2, e3, e4, e5⟩ := k_e.facts
  obtain ⟨s0, s1, s2, s3⟩ := k_s.facts
  go_wp2
  have hmw : mb < w.heap.size := hset.2
  clear e0 e1 e2 e3 e4 e5 s0 s1 s2 s3
  go_loopw [24] (fun iv wr => ∃ (i : Nat) (a b : Bool), i ≤ n ∧ iv = .int .i64 i ∧ Hid (loopS vk f (false, true) i = (a, b)) ∧ C6 wr w.heap.size (.int .i64 vk) (.bool r.s) (.slice r.A r.n r.c) (.slice r.B r.m r.d) (.string st) (.slice K n c) ∧ C2 wr (w.heap.size + 1) false false ∧ C2 wr (w.heap.size + 1 + 1) a b ∧ SetAt wr mb l ∧ Below w.heap.size w wr) (fun iv _ => n - (intOf iv).toNat)
  case atStart => exact ⟨0, false, true, Nat.zero_le _, rfl, (rfl : (_ : Bool × Bool) = _), k_e, k_r, k_s, hset1, hb1⟩
  case round =>
    clear k_e k_r k_s hset1 hb1
    obtain ⟨i, a, b, hi, rfl, HL, k_e, k_r, k_s, hset1, hb1⟩ := hrel
    obtain ⟨e0, e1, e2, e3, e4, e5⟩ := k_e.facts
    obtain ⟨s0, s1, s2, s3⟩ := k_s.facts
    have a0 : (0 : Int) ≤ (i : Int) := by omega
    have a9 : (n : Int) ≤ 10000000000000 := by omega
    by_cases hlt : i < n
    · have a1 : (i : Int) < (n : Int) := by omega
      obtain ⟨bk, off, x, rfl, hbw, hx, hcall⟩ := HK.out i hlt
      have hB : Below w0.heap.size w0 wr := hb00.trans (hb1.mono hb00.size)
      have hx6 := hx.keep (hB.block bk hbw)
      have hbx := (Below.refl wr.heap.size wr).alloc (Nat.le_refl _) (.cells #[.int .i64 x.k, .bool x.r.s, .slice x.r.A x.r.n x.r.c, .slice x.r.B x.r.m x.r.d, .string x.s, .slice x.K x.n x.c] 36)
      have HC := Lib.hid (hcall _ (hB.trans (hbx.mono hB.size)) (hset1.below hbx))
      have k_x := C6.new wr (.int .i64 x.k) (.bool x.r.s) (.slice x.r.A x.r.n x.r.c) (.slice x.r.B x.r.m x.r.d) (.string x.s) (.slice x.K x.n x.c)
      obtain ⟨y0, y1, y2, y3, y4, y5⟩ := k_x.facts
      clear hx hbw hcall
      obtain ⟨x0, x1, x2, x3, x4, x5⟩ := hx6
      go_wp2_with fail
      refine HC.out.mono ?_
      rintro e w2 ⟨rfl, hb2⟩
      obtain ⟨p, hc⟩ : ∃ p, p = (f i).1 := ⟨_, rfl⟩
      obtain ⟨q, hd⟩ : ∃ q, q = (f i).2 := ⟨_, rfl⟩
      have HF : Hid (f i = (p, q)) := by show _ = _; rw [hc, hd]
      rw [← hc, ← hd]
      clear hc hd
      have hb3 := hbx.trans (hb2.mono hbx.size)
      replace k_e := k_e.below hb3
      replace k_r := k_r.below hb3
      replace k_s := k_s.below hb3
      replace hset1 := hset1.below hb3
      replace hb1 := hb1.trans (hb3.mono hb1.size)
      have z2 := k_s.lt
      clear hb2 HC e0 e1 e2 e3 e4 e5 x0 x1 x2 x3 x4 x5 y0 y1 y2 y3 y4 y5 s0 s1 s2 s3 hbx hb3 k_x
      have z0 := k_e.lt
      obtain ⟨e0, e1, e2, e3, e4, e5⟩ := k_e.facts
      obtain ⟨s0, s1, s2, s3⟩ := k_s.facts
      by_cases h5 : vk = 5
      · have b5 : ((vk : Int) == 5) = true := by rw [beq_iff_eq]; exact h5
        have b6 : ((vk : Int) == 6) = false := by rw [beq_eq_false_iff_ne]; omega
        have H5 := Lib.hid h5
        clear h5
        cases a <;> cases b <;> cases p <;> cases q
        all_goals
          go_wp2
          go_roundw
          case rel =>
            refine ⟨i + 1, _, _, by omega, by go_num, ?_, ((k_e.other (by omega) _).other (by omega) _).alloc _, ((k_r.other (by omega) _).other (by omega) _).alloc _, ((k_s.set1 _).set0 _).alloc _, ((hset1.other (by omega) _).other (by omega) _).below ((Below.refl _ _).alloc (Nat.le_refl _) _), ?_⟩
            · show stepS vk i (loopS vk f (false, true) i) (f i) = _
              rw [HL.out, HF.out]
              simp [stepS, H5.out]
            · exact ((hb1.setCell (by dsimp only; omega) _).setCell (by dsimp only; omega) _).alloc (by simp; omega) _
          case measure => simp [intOf]; omega
      · by_cases h6 : vk = 6
        · have b5 : ((vk : Int) == 5) = false := by rw [beq_eq_false_iff_ne]; exact h5
          have b6 : ((vk : Int) == 6) = true := by rw [beq_iff_eq]; exact h6
          have H6 := Lib.hid h6
          clear h5 h6
          by_cases hi0 : 0 < i
          · have c0 : (0 : Int) < (i : Int) := by omega
            cases a <;> cases b <;> cases p <;> cases q
            all_goals
              go_wp2
              go_roundw
              case rel =>
                refine ⟨i + 1, _, _, by omega, by go_num, ?_, ((k_e.other (by omega) _).other (by omega) _).alloc _, ((k_r.other (by omega) _).other (by omega) _).alloc _, ((k_s.set1 _).set0 _).alloc _, ((hset1.other (by omega) _).other (by omega) _).below ((Below.refl _ _).alloc (Nat.le_refl _) _), ?_⟩
                · show stepS vk i (loopS vk f (false, true) i) (f i) = _
                  rw [HL.out, HF.out]
                  simp [stepS, H6.out, hi0]
                · exact ((hb1.setCell (by dsimp only; omega) _).setCell (by dsimp only; omega) _).alloc (by simp; omega) _
              case measure => simp [intOf]; omega
          · have c0 : ¬ (0 : Int) < (i : Int) := by omega
            cases a <;> cases b <;> cases p <;> cases q
            all_goals
              go_wp2
              go_roundw
              case rel =>
                refine ⟨i + 1, _, _, by omega, by go_num, ?_, ((k_e.other (by omega) _).other (by omega) _).alloc _, ((k_r.other (by omega) _).other (by omega) _).alloc _, ((k_s.set1 _).set0 _).alloc _, ((hset1.other (by omega) _).other (by omega) _).below ((Below.refl _ _).alloc (Nat.le_refl _) _), ?_⟩
                · show stepS vk i (loopS vk f (false, true) i) (f i) = _
                  rw [HL.out, HF.out]
                  simp [stepS, H6.out, hi0]
                · exact ((hb1.setCell (by dsimp only; omega) _).setCell (by dsimp only; omega) _).alloc (by simp; omega) _
              case measure => simp [intOf]; omega
        · have b5 : ((vk : Int) == 5) = false := by rw [beq_eq_false_iff_ne]; exact h5
          have b6 : ((vk : Int) == 6) = false := by rw [beq_eq_false_iff_ne]; exact h6
          have H5 := Lib.hid h5
          have H6 := Lib.hid h6
          clear h5 h6
          cases a <;> cases b <;> cases p <;> cases q
          all_goals
            go_wp2
            go_roundw
            case rel =>
              refine ⟨i + 1, _, _, by omega, by go_num, ?_, ((k_e.other (by omega) _).other (by omega) _).alloc _, ((k_r.other (by omega) _).other (by omega) _).alloc _, ((k_s.set1 _).set0 _).alloc _, ((hset1.other (by omega) _).other (by omega) _).below ((Below.refl _ _).alloc (Nat.le_refl _) _), ?_⟩
              · show stepS vk i (loopS vk f (false, true) i) (f i) = _
                rw [HL.out, HF.out]
                simp [stepS, H5.out, H6.out]
              · exact ((hb1.setCell (by dsimp only; omega) _).setCell (by dsimp only; omega) _).alloc (by simp; omega) _
            case measure => simp [intOf]; omega
    · have e : i = n := by omega
      have a1 : ¬ (i : Int) < (n : Int) := by omega
      obtain ⟨r0, r1, r2, r3⟩ := k_r.facts
      rw [e] at HL
      clear e
      go_wp2
      refine ret2c (fn := Try.f40) (b := w.heap.size + 1) (x := a) (y := b) Try.results40 rfl rfl ((k_r.set0 _).set1 _) ⟨?_, ?_⟩
      · show _ = Ending.returned (.agg #[.bool (loopS vk f (decide (vk = 2) && inL l st, true) n).1, .bool (loopS vk f (decide (vk = 2) && inL l st, true) n).2])
        rw [HKK.out, Bool.false_and, HL.out]
      · exact (hb1.setCell (by dsimp only; omega) _).setCell (by dsimp only; omega) _
set_option maxHeartbeats 12800000 in
theorem walk_nm (vk : Int) (r : Rv) (st : ByteArray) (K : Option Addr) (n c : Nat) (w0 w : World) (mb : Nat) (l : List ByteArray) (f : Nat → Bool × Bool) (hk : vk = 2) (hs : st.size ≤ 1000000000000000) (hn9 : n ≤ 10000000000000)
    (hkids : ∀ i, i < n → ∃ b off x, K = some ⟨b, off, none⟩ ∧ b < w0.heap.size ∧ At6 w0 b (off + i * 6) x ∧ ∀ w', Below w0.heap.size w0 w' → SetAt w' mb l →
      Calls Try.prog 40 #[.agg #[.int .i64 x.k, .bool x.r.s, .slice x.r.A x.r.n x.r.c, .slice x.r.B x.r.m x.r.d, .string x.s, .slice x.K x.n x.c], .map (some mb)] w' fun e w'' => e = .returned (.agg #[.bool (f i).1, .bool (f i).2]) ∧ Below w'.heap.size w' w'')
    (hb00 : Below w0.heap.size w0 w) (hset : SetAt w mb l) :
    Calls Try.prog 40 #[.agg #[.int .i64 vk, .bool r.s, .slice r.A r.n r.c, .slice r.B r.m r.d, .string st, .slice K n c], .map (some mb)] w fun e w' => e = .returned (.agg #[.bool (loopS vk f (decide (vk = 2) && inL l st, true) n).1, .bool (loopS vk f (decide (vk = 2) && inL l st, true) n).2]) ∧ Below w.heap.size w w' := by
  have k_e := C6.new w (.int .i64 vk) (.bool r.s) (.slice r.A r.n r.c) (.slice r.B r.m r.d) (.string st) (.slice K n c)
  have hb0 := (Below.refl w.heap.size w).alloc (Nat.le_refl _) (.cells #[.int .i64 vk, .bool r.s, .slice r.A r.n r.c, .slice r.B r.m r.d, .string st, .slice K n c] 36)
  have k_r := C2.new (w.alloc (.cells #[.int .i64 vk, .bool r.s, .slice r.A r.n r.c, .slice r.B r.m r.d, .string st, .slice K n c] 36)) false false
  have hb1 := hb0.alloc (by simp) (.cells #[.bool false, .bool false] 59)
  replace k_e := k_e.below ((Below.refl _ _).alloc (Nat.le_refl _) (.cells #[.bool false, .bool false] 59))
  have hset1 := hset.below hb1
  have e1 : (w.alloc (.cells #[.int .i64 vk, .bool r.s, .slice r.A r.n r.c, .slice r.B r.m r.d, .string st, .slice K n c] 36)).heap.size = w.heap.size + 1 := by simp
  rw [e1] at k_r
  clear e1 hb0
  have HK := Lib.hid hkids
  have HKK : Hid (decide (vk = 2) = true) := by show _ = _; rw [hk]; rfl
  clear hkids
  have b2 : ((vk : Int) == 2) = true := by rw [beq_iff_eq]; exact hk
  have b5 : ((vk : Int) == 5) = false := by rw [beq_eq_false_iff_ne]; omega
  have b6 : ((vk : Int) == 6) = false := by rw [beq_eq_false_iff_ne]; omega
  have h5 : Hid (¬ vk = 5) := by show ¬ _; omega
  have h6 : Hid (¬ vk = 6) := by show ¬ _; omega
  clear hk
  obtain ⟨e0, e1, e2, e3, e4, e5⟩ := k_e.facts
  obtain ⟨r0, r1, r2, r3⟩ := k_r.facts
  go_enter Try.func40, Try.ntmps40
  go_wp2_with fail
  refine (has_c mb l st _ hset1 hs).mono ?_
  rintro e w1 ⟨he, hbh⟩
  obtain ⟨q0, hq⟩ : ∃ q0, inL l st = q0 := ⟨_, rfl⟩
  rw [hq] at he
  subst he
  have HQ := Lib.hid hq
  clear hq
  clear e0 e1 e2 e3 e4 e5 r0 r1 r2 r3
  replace k_e := k_e.below hbh
  replace k_r := k_r.below hbh
  replace hset1 := hset1.below hbh
  replace hb1 := hb1.trans (hbh.mono hb1.size)
  clear hbh
  have z1 : w.heap.size + 1 < w1.heap.size := k_r.lt
  have k_s := C2.new w1 q0 true
  have hbs := (Below.refl w1.heap.size w1).alloc (Nat.le_refl _) (.cells #[.bool q0, .bool true] 59)
  replace k_e := k_e.below hbs
  replace k_r := k_r.below hbs
  replace hset1 := hset1.below hbs
  replace hb1 := hb1.trans (hbs.mono hb1.size)
  clear hbs
  obtain ⟨e0, e1, e2, e3, e4, e5⟩ := k_e.facts
  obtain ⟨s0, s1, s2, s3⟩ := k_s.facts
  go_wp2
  have hmw : mb < w.heap.size := hset.2
  clear e0 e1 e2 e3 e4 e5 s0 s1 s2 s3
  go_loopw [24] (fun iv wr => ∃ (i : Nat) (a b : Bool), i ≤ n ∧ iv = .int .i64 i ∧ Hid (loopS vk f (q0, true) i = (a, b)) ∧ C6 wr w.heap.size (.int .i64 vk) (.bool r.s) (.slice r.A r.n r.c) (.slice r.B r.m r.d) (.string st) (.slice K n c) ∧ C2 wr (w.heap.size + 1) false false ∧ C2 wr w1.heap.size a b ∧ SetAt wr mb l ∧ Below w.heap.size w wr) (fun iv _ => n - (intOf iv).toNat)
  case atStart => exact ⟨0, q0, true, Nat.zero_le _, rfl, (rfl : (_ : Bool × Bool) = _), k_e, k_r, k_s, hset1, hb1⟩
  case round =>
    clear k_e k_r k_s hset1 hb1
    obtain ⟨i, a, b, hi, rfl, HL, k_e, k_r, k_s, hset1, hb1⟩ := hrel
    obtain ⟨e0, e1, e2, e3, e4, e5⟩ := k_e.facts
    obtain ⟨s0, s1, s2, s3⟩ := k_s.facts
    have a0 : (0 : Int) ≤ (i : Int) := by omega
    have a9 : (n : Int) ≤ 10000000000000 := by omega
    by_cases hlt : i < n
    · have a1 : (i : Int) < (n : Int) := by omega
      obtain ⟨bk, off, x, rfl, hbw, hx, hcall⟩ := HK.out i hlt
      have hB : Below w0.heap.size w0 wr := hb00.trans (hb1.mono hb00.size)
      have hx6 := hx.keep (hB.block bk hbw)
      have hbx := (Below.refl wr.heap.size wr).alloc (Nat.le_refl _) (.cells #[.int .i64 x.k, .bool x.r.s, .slice x.r.A x.r.n x.r.c, .slice x.r.B x.r.m x.r.d, .string x.s, .slice x.K x.n x.c] 36)
      have HC := Lib.hid (hcall _ (hB.trans (hbx.mono hB.size)) (hset1.below hbx))
      have k_x := C6.new wr (.int .i64 x.k) (.bool x.r.s) (.slice x.r.A x.r.n x.r.c) (.slice x.r.B x.r.m x.r.d) (.string x.s) (.slice x.K x.n x.c)
      obtain ⟨y0, y1, y2, y3, y4, y5⟩ := k_x.facts
      clear hx hbw hcall
      obtain ⟨x0, x1, x2, x3, x4, x5⟩ := hx6
      go_wp2_with fail
      refine HC.out.mono ?_
      rintro e w2 ⟨rfl, hb2⟩
      obtain ⟨p, hc⟩ : ∃ p, p = (f i).1 := ⟨_, rfl⟩
      obtain ⟨q, hd⟩ : ∃ q, q = (f i).2 := ⟨_, rfl⟩
      have HF : Hid (f i = (p, q)) := by show _ = _; rw [hc, hd]
      rw [← hc, ← hd]
      clear hc hd
      have hb3 := hbx.trans (hb2.mono hbx.size)
      replace k_e := k_e.below hb3
      replace k_r := k_r.below hb3
      replace k_s := k_s.below hb3
      replace hset1 := hset1.below hb3
      replace hb1 := hb1.trans (hb3.mono hb1.size)
      have z2 := k_s.lt
      clear hb2 HC e0 e1 e2 e3 e4 e5 x0 x1 x2 x3 x4 x5 y0 y1 y2 y3 y4 y5 s0 s1 s2 s3 hbx hb3 k_x
      have z0 := k_e.lt
      obtain ⟨e0, e1, e2, e3, e4, e5⟩ := k_e.facts
      obtain ⟨s0, s1, s2, s3⟩ := k_s.facts
      cases a <;> cases b <;> cases p <;> cases q
      all_goals
        go_wp2
        go_roundw
        case rel =>
          refine ⟨i + 1, _, _, by omega, by go_num, ?_, ((k_e.other (by omega) _).other (by omega) _).alloc _, ((k_r.other (by omega) _).other (by omega) _).alloc _, ((k_s.set1 _).set0 _).alloc _, ((hset1.other (by omega) _).other (by omega) _).below ((Below.refl _ _).alloc (Nat.le_refl _) _), ?_⟩
          · show stepS vk i (loopS vk f (q0, true) i) (f i) = _
            rw [HL.out, HF.out]
            simp [stepS, h5.out, h6.out]
          · exact ((hb1.setCell (by dsimp only; omega) _).setCell (by dsimp only; omega) _).alloc (by simp; omega) _
        case measure => simp [intOf]; omega
    · have e : i = n := by omega
      have a1 : ¬ (i : Int) < (n : Int) := by omega
      obtain ⟨r0, r1, r2, r3⟩ := k_r.facts
      rw [e] at HL
      clear e
      go_wp2
      refine ret2c (fn := Try.f40) (b := w.heap.size + 1) (x := a) (y := b) Try.results40 rfl rfl ((k_r.set0 _).set1 _) ⟨?_, ?_⟩
      · show _ = Ending.returned (.agg #[.bool (loopS vk f (decide (vk = 2) && inL l st, true) n).1, .bool (loopS vk f (decide (vk = 2) && inL l st, true) n).2])
        rw [HKK.out, Bool.true_and, HQ.out, HL.out]
      · exact (hb1.setCell (by dsimp only; omega) _).setCell (by dsimp only; omega) _
end Go.Proofs.Ytcmkgoikmleanaa
