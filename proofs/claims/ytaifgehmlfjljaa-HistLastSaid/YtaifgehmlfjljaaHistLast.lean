/-
  Behind any row of pushes the last ones are taken back, in turn: the walk.
-/
import Derived.Test.YtaifgehmlfjljaaHsF
namespace Go.Proofs.Ytaifgehmlfjljaa
set_option maxRecDepth 20000
open Go.RowKit

/-- A row of texts of any size. -/
structure Str0 (w : World) (A : Option Addr) (n : Nat) (ss : List ByteArray) : Prop where
  len : ss.length = n
  mem : 0 < n → ∃ b off, A = some ⟨b, off, none⟩ ∧ b < w.heap.size ∧ ∀ j s, ss[j]? = some s → w.cell? ⟨b, off + j, none⟩ = some (.string s)
theorem Str0.below {w w' : World} {A : Option Addr} {n : Nat} {ss : List ByteArray} (h : Str0 w A n ss) (hb : Below w.heap.size w w') : Str0 w' A n ss :=
  ⟨h.len, fun hn => by
    obtain ⟨b, off, e, h1, hc⟩ := h.mem hn
    exact ⟨b, off, e, Nat.lt_of_lt_of_le h1 hb.size, fun j s hj => (World.cell?_of_block (hb.block b h1)).trans (hc j s hj)⟩⟩
/-- The last ones of the first i. -/
def lastL (l : List ByteArray) (i : Nat) : List ByteArray := (l.take i).drop (i - 32)
theorem lastL_next {l : List ByteArray} {i : Nat} {x : ByteArray} (hx : l[i]? = some x) : (lastL l i).drop (gone (i - (i - 32))) ++ [x] = lastL l (i + 1) := by
  have hl : i < l.length := (List.getElem?_eq_some_iff.1 hx).1
  have e : l.take (i + 1) = l.take i ++ [x] := by
    rw [List.take_add_one, hx]; rfl
  unfold lastL gone
  rw [e, List.drop_drop]
  by_cases h : i < 32
  · rw [show i - (i - 32) + 1 - 32 = 0 by omega, show i - 32 = 0 by omega, show i + 1 - 32 = 0 by omega]; rfl
  · rw [show i - (i - 32) + 1 - 32 = 1 by omega, show i - 32 + 1 = i + 1 - 32 by omega, List.drop_append_of_le_length (by simp; omega)]
theorem lastL_sz {l : List ByteArray} {i : Nat} (h : ∀ (j : Nat) x, j < i → l[j]? = some x → x.size ≤ 50) : ∀ s ∈ lastL l i, s.size ≤ 2000000 := by
  intro s hs
  have h1 := List.mem_of_mem_drop hs
  obtain ⟨j, hj⟩ := List.getElem?_of_mem h1
  rw [List.getElem?_take] at hj
  split at hj
  · next h2 => have := h j s h2 hj; omega
  · cases hj
theorem take_at {l : List ByteArray} {p D : Nat} {x : ByteArray} (hx : l[p]? = some x) (hD : D ≤ p) : ((l.take (p + 1)).drop D)[p - D]? = some x := by
  rw [List.getElem?_drop, show D + (p - D) = p by omega, List.getElem?_take, if_pos (by omega), hx]
theorem take_less {l : List ByteArray} {p D : Nat} : ((l.take (p + 1)).drop D).take (p - D) = (l.take p).drop D := by
  rw [← List.drop_take, List.take_take, Nat.min_eq_left (by omega)]
theorem Is_c (A B : Option Addr) (n c m d : Nat) (w : World) (h : n + m ≤ 32) :
    Calls Try.prog 16 #[.agg #[.slice A n c, .slice B m d]] w fun e w' => e = .returned (.bool true) ∧ Below w.heap.size w w' := by
  have hb : Below w.heap.size w (w.alloc (.cells #[.slice A n c, .slice B m d] 24)) := below_alloc _ _
  have k0 : C2 (w.alloc (.cells #[.slice A n c, .slice B m d] 24)) w.heap.size 24 (.slice A n c) (.slice B m d) := C2.newAt _ _ _ rfl
  obtain ⟨a0, a1⟩ := k0.facts
  have HB := Lib.hid hb
  have i1 : (n : Int) + (m : Int) ≤ 32 := by omega
  have i2 : (0 : Int) ≤ (n : Int) := by omega
  have i3 : (0 : Int) ≤ (m : Int) := by omega
  clear hb k0
  go_enter Try.func16, Try.ntmps16
  go_wp2
  go_ret
  exact ⟨rfl, HB.out⟩
/-- The history behind i pushes. -/
structure HL (w wr : World) (l : List ByteArray) (i : Nat) (A2 : Option Addr) (c2 : Nat) : Prop where
  below : Below w.heap.size w wr
  k : C2 wr w.heap.size 24 (.slice A2 (i - (i - 32)) c2) (.slice none 0 0)
  row : Strs wr A2 (i - (i - 32)) (lastL l i)
  cap : i - (i - 32) ≤ c2
  sz : ∀ (j : Nat) x, j < i → l[j]? = some x → x.size ≤ 50
/-- The history behind some that were taken back: the first q are left. -/
structure HM (w wr : World) (l : List ByteArray) (D q : Nat) (A2 B2 : Option Addr) (c2 m d2 : Nat) (F : List ByteArray) : Prop where
  below : Below w.heap.size w wr
  k : C2 wr w.heap.size 24 (.slice A2 (q - D) c2) (.slice B2 m d2)
  row : Strs wr A2 (q - D) ((l.take q).drop D)
  fut : Strs wr B2 m F
  cap : q - D ≤ c2
  few : m + q ≤ 200
set_option maxHeartbeats 6400000 in
theorem HistLast_c (A : Option Addr) (n c : Nat) (l : List ByteArray) (w : World) (h : Str0 w A n l) :
    Calls Try.prog 4 #[.slice A n c] w fun e w' => e = .returned (.bool true) ∧ Below w.heap.size w w' := by
  have H := Lib.hid h
  clear h
  by_cases h100 : 100 < n
  · have i1 : (100 : Int) < (n : Int) := by omega
    go_enter Try.func4, Try.ntmps4
    go_wp2
    go_ret
    exact ⟨rfl, Below.refl _ _⟩
  · have i1 : ¬ (100 : Int) < (n : Int) := by omega
    have n0 : (0 : Int) ≤ (n : Int) := by omega
    have n9 : (n : Int) ≤ 100 := by omega
    have H0 : Hid (HL w (w.alloc (.cells #[.slice none 0 0, .slice none 0 0] 24)) l 0 none 0) := ⟨below_alloc _ _, C2.newAt _ _ _ rfl, Strs.nil_ _ _, Nat.le_refl _, fun j x hj => absurd hj (Nat.not_lt_zero _)⟩
    go_enter Try.func4, Try.ntmps4
    go_wp2
    go_loopw [4] (fun iv wr => ∃ (i : Nat) (A2 : Option Addr) (c2 : Nat), i ≤ n ∧ iv = .int .i64 i ∧ Hid (HL w wr l i A2 c2)) (fun iv _ => n - (intOf iv).toNat)
    case atStart => exact ⟨0, none, 0, Nat.zero_le _, rfl, H0⟩
    case round =>
      clear H0
      obtain ⟨i, A2, c2, hi, rfl, HR⟩ := hrel
      have i0 : (0 : Int) ≤ (i : Int) := by omega
      obtain ⟨p0, p1⟩ := HR.out.k.facts
      by_cases hlt : i < n
      · have i2 : (i : Int) < (n : Int) := by omega
        obtain ⟨b, off, rfl, hbl, hc⟩ := H.out.mem (by omega)
        obtain ⟨x, hx⟩ : ∃ x, l[i]? = some x := ⟨_, List.getElem?_eq_getElem (by rw [H.out.len]; omega)⟩
        have c0 := (HR.out.below.cell (p := ⟨b, off + i, none⟩) hbl).trans (hc i x hx)
        have HX := Lib.hid hx
        clear hc hx
        by_cases h50 : 50 < x.size
        · have i3 : (50 : Int) < (x.size : Int) := by omega
          go_wp2
          go_ret
          exact ⟨rfl, HR.out.below⟩
        · have i3 : ¬ (50 : Int) < (x.size : Int) := by omega
          have hbl2 : ¬ b = w.heap.size := by omega
          have hbl3 : ¬ w.heap.size = b := by omega
          go_wp2
          go_region_with (first
            | (go_at_call 15
               refine (Push_c A2 none (i - (i - 32)) c2 0 0 (lastL l i) x _ (HR.out.row.below (⟨rfl, rfl, rfl, Nat.le_refl _, fun _ _ => rfl⟩ : Below wr.heap.size wr wr.drew)) (by omega) HR.out.cap (by omega)).mono ?_
               rintro e w1 ⟨A3, c3, rfl, ho, hb⟩
               have hbW := (⟨rfl, rfl, rfl, Nat.le_refl _, fun _ _ => rfl⟩ : Below wr.heap.size wr wr.drew).trans hb
               have H1 := Lib.hid (And.intro ho hbW)
               obtain ⟨q0, q1⟩ := (HR.out.k.below hbW).facts
               have q2 := (HR.out.k.below hbW).thaw 0
               have q3 := (HR.out.k.below hbW).thaw 1
               have ql := (HR.out.k.below hbW).lt
               clear ho hb hbW))
          all_goals (
            have HN : Hid (HL w (put2 w1 w.heap.size (.slice A3 (i - (i - 32) - gone (i - (i - 32)) + 1) c3) (.slice none 0 0)) l (i + 1) A3 c3) := by
              have e1 : i - (i - 32) - gone (i - (i - 32)) + 1 = i + 1 - (i + 1 - 32) := by unfold gone; omega
              have ho := H1.out.1
              rw [e1, lastL_next HX.out] at ho
              rw [e1]
              have hsz : ∀ (j : Nat) y, j < i + 1 → l[j]? = some y → y.size ≤ 50 := fun j y hj hy => by
                by_cases e : j = i
                · subst e; rw [HX.out] at hy; injection hy with hy; subst hy; omega
                · exact HR.out.sz j y (by omega) hy
              have hk := HR.out.k.below H1.out.2
              exact ⟨(HR.out.below.trans (H1.out.2.mono HR.out.below.size)).trans (put2_below (Nat.le_refl _)), hk.put _ _, (ho.put hk (by decide) _ _).strs (lastL_sz hsz), ho.capLe, hsz⟩
            go_wp2
            go_roundw
            case rel => exact ⟨i + 1, A3, c3, by omega, by go_num, HN⟩
            case measure => simp [intOf]; omega)
      · obtain rfl : i = n := by omega
        have i2 : ¬ (i : Int) < (i : Int) := by omega
        go_wp2_with fail
        refine (Is_c A2 none (i - (i - 32)) c2 0 0 _ (by omega)).mono ?_
        rintro e w1 ⟨rfl, hb⟩
        have hD : Hid ((32 ≤ i → ((i - 32 : Nat) : Int) = (i : Int) - 32) ∧ (i < 32 → i - 32 = 0)) := ⟨fun h => by omega, fun h => by omega⟩
        have HM0 : Hid (HM w w1 l (i - 32) i A2 none c2 0 0 []) :=
          ⟨HR.out.below.trans (hb.mono HR.out.below.size), HR.out.k.below hb, HR.out.row.below hb, Strs.nil_ _ _, HR.out.cap, by omega⟩
        have HSZ := Lib.hid HR.out.sz
        clear hb HR p0 p1
        generalize i - 32 = D at *
        go_wp2
        go_loopw [5, 6] (fun tv iv wr => ∃ (q : Nat) (z : Int) (A2 B2 : Option Addr) (c2 m d2 : Nat) (F : List ByteArray) (t : ByteArray), D ≤ q ∧ q ≤ i ∧ iv = .int .i64 z ∧ tv = .string t ∧ Hid (z + 1 = (q : Int)) ∧ Hid (t.size ≤ 2000000) ∧ Hid (HM w wr l D q A2 B2 c2 m d2 F)) (fun _ iv _ => (intOf iv + 1).toNat)
        case atStart => exact ⟨i, (i : Int) - 1, A2, none, c2, 0, 0, [], ⟨#[110, 111, 119]⟩, by have := hD.out; omega, Nat.le_refl _, rfl, rfl, (show (i : Int) - 1 + 1 = (i : Int) by omega), (show (3 : Nat) ≤ 2000000 by omega), HM0⟩
        case round =>
          clear HM0
          obtain ⟨q, z, A2, B2, c2, m, d2, F, t, hDq, hqi, rfl, rfl, HZ1, HT, HR⟩ := hrel
          obtain ⟨p0, p1⟩ := HR.out.k.facts
          have hhl := HR.out.k.lt
          by_cases hlt : D < q
          · obtain ⟨p, rfl⟩ : ∃ p, q = p + 1 := ⟨q - 1, by omega⟩
            obtain rfl : z = (p : Int) := by have := HZ1.out; omega
            have j0 : (0 : Int) ≤ (p : Int) := by omega
            have j1 : (p : Int) < (i : Int) := by omega
            have j2 : (i : Int) - 32 ≤ (p : Int) := by have := hD.out; omega
            have hpD : p + 1 - D = p - D + 1 := by omega
            obtain ⟨b, off, rfl, hbl, hc⟩ := H.out.mem (by omega)
            obtain ⟨x, hx⟩ : ∃ x, l[p]? = some x := ⟨_, List.getElem?_eq_getElem (by rw [H.out.len]; omega)⟩
            have HC : Hid (∀ w', Below w.heap.size w w' → w'.cell? ⟨b, off + p, none⟩ = some (.string x)) := fun w' hb => (hb.cell (p := ⟨b, off + p, none⟩) hbl).trans (hc p x hx)
            have HX : Hid (l[p]? = some x ∧ x.size ≤ 2000000) := ⟨hx, by have := HSZ.out p x (by omega) hx; omega⟩
            have hrow := HR.out.row
            rw [hpD] at p0 hrow
            have HRW := Lib.hid hrow
            clear hx hc hrow
            go_wp2_with fail
            refine (Undo_yes A2 B2 (p - D) c2 m d2 _ F t x _ HRW.out HR.out.fut (by omega) (by have := HR.out.few; omega) HT.out (take_at HX.out.1 (by omega)) (by have := HR.out.cap; omega)).mono ?_
            rintro e w2 ⟨A3, c3, B3, d3, rfl, ho, ho', hb⟩
            have hb2 := HR.out.below.trans (hb.mono HR.out.below.size)
            have HN : Hid (HM w ((put2 w2 w.heap.size (.slice A3 (p - D) c3) (.slice B3 (m + 1) d3)).alloc (.cells #[.slice A3 (p - D) c3, .slice B3 (m + 1) d3] 24)) l D p A3 B3 c3 (m + 1) d3 (F ++ [t])) := by
              have hk := HR.out.k.below hb
              rw [take_less] at ho
              have hs1 : w.heap.size ≤ (put2 w2 w.heap.size (.slice A3 (p - D) c3) (.slice B3 (m + 1) d3)).heap.size := by rw [put2_size]; exact hb2.size
              refine ⟨(hb2.trans (put2_below (Nat.le_refl _))).alloc hs1 _, (hk.put _ _).below (below_alloc _ _), ((ho.put hk (by decide) _ _).strs (fun y hy => ?_)).below (below_alloc _ _), ((ho'.put hk (by decide) _ _).strs (fun y hy => ?_)).below (below_alloc _ _), ho.capLe, by have := HR.out.few; omega⟩
              · obtain ⟨j, hj⟩ := List.getElem?_of_mem (List.mem_of_mem_drop hy)
                rw [List.getElem?_take] at hj
                split at hj
                · next h2 => have := HSZ.out j y (by omega) hj; omega
                · cases hj
              · rcases List.mem_append.1 hy with hy | hy
                · exact HR.out.fut.sz y hy
                · simp at hy; subst hy; exact HT.out
            have r2 := (HR.out.k.below hb).thaw 0
            have r3 := (HR.out.k.below hb).thaw 1
            have c0 := HC.out _ hb2
            have hbl2 : b < w2.heap.size := by have := hb2.size; omega
            obtain ⟨r0, r1⟩ := (HR.out.k.below hb).facts
            have rl := (HR.out.k.below hb).lt
            have hw2 : ¬ w.heap.size = w2.heap.size := by omega
            have hbe : (x.toList == x.toList) = true := beq_self_eq_true _
            have hbn : (x.toList != x.toList) = false := by simp
            clear ho ho' hb hb2 p0 p1
            rw [hpD] at r0
            go_wp2
            go_roundw
            case rel => exact ⟨p, (p : Int) - 1, A3, B3, c3, m + 1, d3, F ++ [t], x, by omega, by omega, by go_num, rfl, (show (p : Int) - 1 + 1 = (p : Int) by omega), HX.out.2, HN⟩
            case measure => simp [intOf]
          · obtain rfl : q = D := by omega
            have e0 : q - q = 0 := Nat.sub_self q
            have HE : Hid (Strs wr A2 0 ((l.take q).drop q)) := by
              have := HR.out.row
              rw [e0] at this
              exact this
            have hz := HZ1.out
            have hd1 := hD.out.1
            have hd2 := hD.out.2
            rw [e0] at p0
            by_cases hz0 : 0 ≤ z
            · have j2 : ¬ (i : Int) - 32 ≤ z := by omega
              clear hz hd1 hd2 e0
              go_wp2_with fail
              refine (Undo_no A2 B2 0 c2 m d2 _ F t _ HE.out HR.out.fut (by omega) (by have := HR.out.few; omega) rfl).mono ?_
              rintro e w2 ⟨A3, c3, B3, d3, rfl, _, _, hb⟩
              have H2 := Lib.hid ((HR.out.below.trans (hb.mono HR.out.below.size)).alloc (Nat.le_trans HR.out.below.size hb.size) (.cells #[.slice A3 0 c3, .slice B3 m d3] 24))
              clear hb
              go_wp2_with fail
              refine (known_c _).mono ?_
              rintro e w3 ⟨rfl, hb⟩
              have H3 := Lib.hid (H2.out.trans (hb.mono H2.out.size))
              clear hb
              go_wp2
              go_ret
              exact ⟨rfl, H3.out⟩
            · clear hz hd1 hd2 e0
              go_wp2_with fail
              refine (Undo_no A2 B2 0 c2 m d2 _ F t _ HE.out HR.out.fut (by omega) (by have := HR.out.few; omega) rfl).mono ?_
              rintro e w2 ⟨A3, c3, B3, d3, rfl, _, _, hb⟩
              have H2 := Lib.hid ((HR.out.below.trans (hb.mono HR.out.below.size)).alloc (Nat.le_trans HR.out.below.size hb.size) (.cells #[.slice A3 0 c3, .slice B3 m d3] 24))
              clear hb
              go_wp2_with fail
              refine (known_c _).mono ?_
              rintro e w3 ⟨rfl, hb⟩
              have H3 := Lib.hid (H2.out.trans (hb.mono H2.out.size))
              clear hb
              go_wp2
              go_ret
              exact ⟨rfl, H3.out⟩
end Go.Proofs.Ytaifgehmlfjljaa
