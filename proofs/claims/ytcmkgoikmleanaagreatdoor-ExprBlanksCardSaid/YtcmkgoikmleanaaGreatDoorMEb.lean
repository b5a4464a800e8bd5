/-
  Expressions, no program: a number's text within a text.
  The reader's names.
  The reader's numbers.
  The reader: a sign ahead, a bracket.
  The reader: factors, products, sums, within one another so deep as may be.
  The whole text as an expression, or the error that goes up.
-/
import Derived.Test.YtcmkgoikmleanaaGreatDoorMEa
import Derived.Test.YtcmkgoikmleanaaGreatDoorMDd
import Derived.Test.YtcmkgoikmleanaaGreatDoorMEf
import Derived.Test.YtcmkgoikmleanaaGreatDoorShelf
import Derived.Deep.RegionHeld3
namespace Go.Proofs.YtcmkgoikmleanaaGreatDoor
set_option maxRecDepth 20000
open Go.RowKit

theorem take_run {f : UInt8 → Bool} (S : ByteArray) (q : Nat) : (S.data.toList.drop q).take (run f S q - q) = (S.data.toList.drop q).takeWhile f := by
  have e : run f S q - q = ((S.data.toList.drop q).takeWhile f).length := by unfold run; omega
  rw [e]
  generalize S.data.toList.drop q = l
  induction l with
  | nil => rfl
  | cons a l ih =>
    rw [List.takeWhile_cons]
    split
    · simp only [List.length_cons, List.take_succ_cons, ih]
    · rfl
theorem mem_run {f : UInt8 → Bool} {l : List UInt8} {c : UInt8} (h : c ∈ l.takeWhile f) : f c = true := by
  induction l with
  | nil => simp at h
  | cons a l ih =>
    rw [List.takeWhile_cons] at h
    split at h
    · rename_i ha
      rcases List.mem_cons.1 h with rfl | h
      · exact ha
      · exact ih h
    · simp at h
theorem dig_run (l : List UInt8) : Dig (l.takeWhile isDg) := by
  intro c hc
  have := mem_run hc
  unfold isDg at this
  simp only [Bool.and_eq_true, decide_eq_true_eq] at this
  exact this
theorem ext_toList (S : ByteArray) (i j : Nat) : (S.extract i j).data.toList = (S.data.toList.drop i).take (j - i) := by
  rw [ext_data, List.drop_take]
theorem nosign {l : List UInt8} (h : IsDs l) (m : List UInt8) : Sgn (l ++ m) false (l ++ m) := by
  refine ⟨fun h => Bool.noConfusion h, fun _ => ⟨rfl, ?_⟩⟩
  obtain ⟨h1, h2⟩ := h
  cases l with
  | nil => exact absurd rfl h1
  | cons a l =>
    have := h2 a (by simp)
    intro e
    simp at e
    subst e
    exact absurd this.1 (by decide)
theorem ds_run {S : ByteArray} {q : Nat} (h : q < run isDg S q) : IsDs ((S.data.toList.drop q).takeWhile isDg) := by
  refine ⟨fun e => ?_, dig_run _⟩
  unfold run at h
  rw [e] at h
  simp at h
/-- A text of digits. -/
theorem txt_whole {S : ByteArray} {q : Nat} (h : q < run isDg S q) (h2 : run isDg S q - q ≤ 400) (hs : run isDg S q ≤ S.size) : ∃ r, Txt (S.extract q (run isDg S q)) r := by
  have e : (S.extract q (run isDg S q)).data.toList = (S.data.toList.drop q).takeWhile isDg := by rw [ext_toList, take_run]
  have hd := ds_run h
  refine ⟨_, ?_, false, S.extract q (run isDg S q), nu ((S.data.toList.drop q).takeWhile isDg), 1, ?_, ?_, rfl⟩
  · rw [ByteArray.size_extract]; omega
  · rw [e]
    have := nosign hd []
    rwa [List.append_nil] at this
  · rw [e]; exact .whole hd
/-- A text of digits, a point, digits. -/
theorem txt_point {S : ByteArray} {q : Nat} (h : q < run isDg S q) (hp : bt S (run isDg S q) = 46) (h3 : run isDg S q + 1 < run isDg S (run isDg S q + 1)) (h2 : run isDg S (run isDg S q + 1) - q ≤ 400) (hs : run isDg S (run isDg S q + 1) ≤ S.size) :
    ∃ r, Txt (S.extract q (run isDg S (run isDg S q + 1))) r := by
  have hd := ds_run h
  have hd2 := ds_run h3
  have ea := take_run (f := isDg) S q
  have eb := take_run (f := isDg) S (run isDg S q + 1)
  generalize hA : run isDg S q = a at *
  generalize hB : run isDg S (a + 1) = b at *
  have hal : a < S.data.toList.length := by rw [data_size]; omega
  have e : (S.extract q b).data.toList = (S.data.toList.drop q).takeWhile isDg ++ 46 :: (S.data.toList.drop (a + 1)).takeWhile isDg := by
    rw [ext_toList, ← ea, ← eb]
    have e1 : b - q = (a - q) + (1 + (b - (a + 1))) := by omega
    rw [e1, List.take_add]
    congr 1
    rw [List.drop_drop, show q + (a - q) = a by omega]
    have e2 : S.data.toList.drop a = 46 :: S.data.toList.drop (a + 1) := by
      rw [List.drop_eq_getElem_cons hal]
      congr 1
      unfold bt at hp
      rw [List.getElem?_eq_getElem hal, Option.getD_some] at hp
      exact hp
    rw [e2, Nat.add_comm 1, List.take_succ_cons]
  refine ⟨_, ?_, false, S.extract q b, nu ((S.data.toList.drop q).takeWhile isDg ++ (S.data.toList.drop (a + 1)).takeWhile isDg), 10 ^ ((S.data.toList.drop (a + 1)).takeWhile isDg).length, ?_, ?_, rfl⟩
  · rw [ByteArray.size_extract]; omega
  · rw [e]; exact nosign hd _
  · exact .point _ _ e hd hd2
theorem Txt.one {F : ByteArray} {r s : Rat} (h : Txt F r) (h' : Txt F s) (hn : F.data.toList.head? ≠ some 45) : r = s := by
  obtain ⟨_, neg, M, x, y, hs, hn1, rfl⟩ := h
  obtain ⟨_, neg', M', x', y', hs', hn2, rfl⟩ := h'
  have k1 : neg = false := by
    cases neg with
    | false => rfl
    | true => rw [hs.yes rfl] at hn; exact absurd rfl hn
  have k2 : neg' = false := by
    cases neg' with
    | false => rfl
    | true => rw [hs'.yes rfl] at hn; exact absurd rfl hn
  subst k1; subst k2
  have e1 := (hs.no rfl).1
  have e2 := (hs'.no rfl).1
  rw [← e1] at hn1
  rw [← e2] at hn2
  obtain ⟨rfl, rfl⟩ := hn1.one hn2
  rfl
/-- The number that a text is. -/
noncomputable def tv (F : ByteArray) : Rat := open Classical in if h : ∃ r, Txt F r then h.choose else 0
theorem tv_of {F : ByteArray} (h : ∃ r, Txt F r) : Txt F (tv F) := by
  unfold tv
  rw [dif_pos h]
  exact h.choose_spec
theorem prefix_dot {S : ByteArray} {a : Nat} : Lib.hasPrefix (S.extract a S.size).data.toList [46] = decide (bt S a = 46) := by
  rw [ext_toList]
  have e : (S.data.toList.drop a).take (S.size - a) = S.data.toList.drop a := List.take_of_length_le (by rw [List.length_drop, data_size]; omega)
  rw [e]
  unfold bt
  have h0 : S.data.toList[a]? = (S.data.toList.drop a).head? := by rw [List.head?_drop]
  rw [h0]
  unfold Lib.hasPrefix
  cases S.data.toList.drop a with
  | nil => decide
  | cons c l =>
    have e1 : List.isPrefixOf [46] (c :: l) = ((46 : UInt8) == c) := by simp [List.isPrefixOf]
    have e2 : decide (((c :: l).head?).getD 0 = 46) = decide (c = 46) := rfl
    rw [e1, e2]
    by_cases h : c = 46
    · rw [decide_eq_true h, h]; rfl
    · rw [decide_eq_false h]; exact beq_eq_false_iff_ne.2 (Ne.symm h)
end Go.Proofs.YtcmkgoikmleanaaGreatDoor

namespace Go.Proofs.YtcmkgoikmleanaaGreatDoor
set_option maxRecDepth 20000
open Go.RowKit

theorem put6_cell {w : World} {b g : Nat} (hg : g ≠ b) (x0 x1 x2 x3 x4 x5 : Value) (i : Nat) : (put6 w b x0 x1 x2 x3 x4 x5).cell? ⟨g, i, none⟩ = w.cell? ⟨g, i, none⟩ := by
  have h1 : ∀ (w : World) (j : Nat) (x : Value), (w.setCell ⟨b, j, none⟩ x).cell? ⟨g, i, none⟩ = w.cell? ⟨g, i, none⟩ := fun w j x => World.cell?_setCell_other w _ _ x (by intro e; injection e with e; exact hg e.symm)
  exact (((((h1 _ _ _).trans (h1 _ _ _)).trans (h1 _ _ _)).trans (h1 _ _ _)).trans (h1 _ _ _)).trans (h1 _ _ _)

set_option maxHeartbeats 400000 in
theorem Clone_c (s : ByteArray) (w : World) (hs : s.size ≤ 100000) : Calls Tryz.prog 139 #[.string s] w fun e w' => e = .returned (.string s) ∧ Below w.heap.size w w' := by
  go_enter Tryz.func139, Tryz.ntmps139
  go_wp2_with fail
  refine (Tryz.stringslite_Clone s _ (by omega)).mono ?_
  rintro e w' ⟨rfl, hb⟩
  go_wp2
  go_ret
  exact ⟨rfl, hb⟩

set_option maxHeartbeats 4000000 in
theorem name_c {w0 : World} {g d : Nat} {S : ByteArray} (hs : S.size ≤ 100000) (w : World) (p n : Nat) (h : Rdr w0 g S w p d n) (hp : p ≤ S.size) (hn : n ≤ p) :
    Calls Tryz.prog 107 #[.pointer (some ⟨g, 0, none⟩)] w (Post w0 g S d w (name S p n)) := by
  have hgl := h.lt
  have hw0 := h.below.size
  have h' := h.alloc (.cells #[.int .i64 0, .bool false, .slice none 0 0, .slice none 0 0, .string ⟨#[]⟩, .slice none 0 0] 27)
  have hb' := (But.refl g w).alloc (.cells #[.int .i64 0, .bool false, .slice none 0 0, .slice none 0 0, .string ⟨#[]⟩, .slice none 0 0] 27)
  have k_r := C6.new w (.int .i64 0) (.bool false) (.slice none 0 0) (.slice none 0 0) (.string ⟨#[]⟩) (.slice none 0 0)
  have hsz : (w.alloc (.cells #[.int .i64 0, .bool false, .slice none 0 0, .slice none 0 0, .string ⟨#[]⟩, .slice none 0 0] 27)).heap.size = w.heap.size + 1 := by simp
  have HR : Hid (name S p n = if run isNb S p - p > 24 then .err (p + 24) 2
    else .ok (mk n (.nm (S.extract p (run isNb S p)))) (.nm (S.extract p (run isNb S p))) (run isNb S p) (n + 1) false) := rfl
  have hq1 := le_run isNb S p
  have hq2 := run_le isNb S hp
  generalize name S p n = RES at *
  obtain ⟨h0, h1, h2, h3, f1, f2, f3⟩ := h'.facts
  go_enter Tryz.func107, Tryz.ntmps107
  go_wp2_with fail
  clear h0 h1 h2 h3 f1 f2 f3
  refine (passN_c h' hp hs).mono ?_
  rintro e w1 ⟨rfl, hr, hb⟩
  replace hb' := hb'.trans hb
  replace k_r := k_r.but hb (by omega)
  have hsz1 := hb.size
  generalize run isNb S p = q at *
  obtain ⟨h0, h1, h2, h3, f1, f2, f3⟩ := hr.facts
  by_cases hlong : q - p > 24
  · have i1 : (24 : Int) < ((q - p : Nat) : Int) := by omega
    have i2 : (p : Int) ≤ 100000 := by omega
    have i3 : (0 : Int) ≤ (p : Int) := by omega
    have hres : Hid (RES = .err (p + 24) 2) := by show _ = _; rw [HR.out, if_pos hlong]
    clear hlong HR
    go_wp2_with fail
    refine (fail_c 2 (hr.set1 (q := p + 24) (v := (p : Int) + 24) (by omega))).mono ?_
    rintro e w2 ⟨rfl, rfl⟩
    refine ⟨rfl, ?_⟩
    rw [hres.out]
    exact ⟨rfl, hb'.set _ _⟩
  · have i1 : ¬ (24 : Int) < ((q - p : Nat) : Int) := by omega
    have hres : Hid (RES = .ok (mk n (.nm (S.extract p q))) (.nm (S.extract p q)) q (n + 1) false) := by show _ = _; rw [HR.out, if_neg hlong]
    have i2 : (p : Int) ≤ (q : Int) := by omega
    have i3 : (0 : Int) ≤ (p : Int) := by omega
    have i4 : (q : Int) ≤ (S.size : Int) := by omega
    have hne : g ≠ w.heap.size := by omega
    have hxs : (S.extract p q).size ≤ 100000 := by rw [ByteArray.size_extract]; omega
    clear hlong HR
    go_wp2_with fail
    replace hr := hr.drew
    replace hb' := hb'.drew
    replace k_r := k_r.drew
    have hzd : w1.drew.heap.size = w1.heap.size := rfl
    obtain ⟨r0, r1, r2, r3, r4, r5⟩ := k_r.thaw
    obtain ⟨s0, s1, s2, s3, s4, s5⟩ := k_r.facts
    have mk0 : Hid True := trivial
    go_region_held3 (fun w' => w'.cell? ⟨g, 0, none⟩ = some (.string S) ∧ w'.cell? ⟨g, 1, none⟩ = some (.int .i64 q)) (first | go_keep | exact ⟨(put6_cell hne _ _ _ _ _ _ _).trans h0, (put6_cell hne _ _ _ _ _ _ _).trans h1⟩)
      (first
      | (go_at_call 139
         refine (Clone_c (S.extract p q) _ hxs).mono ?_
         rintro e w2 ⟨rfl, hb2⟩
         replace hr := hr.next hb2
         replace hb' := hb'.trans (.of hb2)
         replace k_r := k_r.below hb2
         have hz2 := hb2.size
         clear hb2 h0 h1 h2 h3 f1 f2 f3 r0 r1 r2 r3 r4 r5 s0 s1 s2 s3 s4 s5
         obtain ⟨h0, h1, h2, h3, f1, f2, f3⟩ := hr.facts
         obtain ⟨r0, r1, r2, r3, r4, r5⟩ := k_r.thaw
         obtain ⟨s0, s1, s2, s3, s4, s5⟩ := k_r.facts)
      | (go_at_call 78
         obtain ⟨x, hx⟩ : ∃ x : Ev, Hid (x = if n < 256 then ⟨2, Rz, S.extract p q, none, 0, 0⟩ else Ez) := ⟨_, rfl⟩
         refine (node_c ⟨2, Rz, S.extract p q, none, 0, 0⟩ x hx.out hr (by omega)).mono ?_
         rintro e w3 ⟨rfl, hr3, hb3⟩
         replace hb' := hb'.trans hb3
         replace k_r := k_r.but hb3 (by omega)
         have hz3 := hb3.size
         have ht : Tw w3 (fun b => w.heap.size + 1 ≤ b) (mk n (.nm (S.extract p q))) x := by
           have hx := hx.out
           by_cases hn : n < 256
           · rw [if_pos hn] at hx; subst hx
             rw [mk_of (by omega)]; rfl
           · rw [if_neg hn] at hx; subst hx
             rw [mk_over (by omega)]; rfl
         clear hb3 h0 h1 h2 h3 f1 f2 f3 r0 r1 r2 r3 r4 r5 s0 s1 s2 s3 s4 s5
         obtain ⟨h0, h1, h2, h3, f1, f2, f3⟩ := hr3.facts
         obtain ⟨r0, r1, r2, r3, r4, r5⟩ := k_r.thaw
         obtain ⟨s0, s1, s2, s3, s4, s5⟩ := k_r.facts))
    go_wp2
    refine ret6 (fn := Tryz.f107) Tryz.results107 rfl rfl k_r ?_
    rw [hres.out]
    exact ⟨x, rfl, (ht.but (put6_but _ _ _ _ _ _) (fun b h1 => by omega)).wide (fun b h1 => by omega), hr3.put (by omega) (by omega) _ _ _ _ _ _, hb'.put (Nat.le_refl _) _ _ _ _ _ _⟩
end Go.Proofs.YtcmkgoikmleanaaGreatDoor

namespace Go.Proofs.YtcmkgoikmleanaaGreatDoor
set_option maxRecDepth 20000
open Go.RowKit

theorem put3_cell {w : World} {b g : Nat} (hg : g ≠ b) (x0 x1 x2 : Value) (i : Nat) : (put3 w b x0 x1 x2).cell? ⟨g, i, none⟩ = w.cell? ⟨g, i, none⟩ := by
  have h1 : ∀ (w : World) (j : Nat) (x : Value), (w.setCell ⟨b, j, none⟩ x).cell? ⟨g, i, none⟩ = w.cell? ⟨g, i, none⟩ := fun w j x => World.cell?_setCell_other w _ _ x (by intro e; injection e with e; exact hg e.symm)
  exact ((h1 _ _ _).trans (h1 _ _ _)).trans (h1 _ _ _)
theorem put3_but {w : World} {b : Nat} (x0 x1 x2 : Value) : But b w (put3 w b x0 x1 x2) := (((But.refl b w).set _ _).set _ _).set _ _
theorem But.put3 {g : Nat} {w w' : World} (h : But g w w') {b : Nat} (hb : w.heap.size ≤ b) (x0 x1 x2 : Value) : But g w (put3 w' b x0 x1 x2) := by
  have h1 := put3_but (w := w') (b := b) x0 x1 x2
  exact ⟨h1.os.trans h.os, h1.tape.trans h.tape, h1.output.trans h.output, Nat.le_trans h.size h1.size, fun k hk hg => (h1.block k (Nat.lt_of_lt_of_le hk h.size) (by omega)).trans (h.block k hk hg)⟩
theorem Rdr.put3 {w0 w : World} {g p d n : Nat} {S : ByteArray} (h : Rdr w0 g S w p d n) {b : Nat} (hg : b ≠ g) (hb : w0.heap.size ≤ b) (x0 x1 x2 : Value) : Rdr w0 g S (put3 w b x0 x1 x2) p d n :=
  ((h.other hg hb _ _).other hg hb _ _).other hg hb _ _
theorem dot_q (F : ByteArray) (b : Bool) (h : Lib.hasPrefix F.data.toList [46] = b) (w : World) (n : Nat) : Calls Tryz.prog 130 #[.string F, .string ⟨#[46]⟩] (w.drewN n) fun e w'' => e = .returned (.bool b) ∧ ∃ m, w'' = w.drewN m :=
  (Tryz.strings_HasPrefix F ⟨#[46]⟩ _).mono fun e w' ⟨he, hw⟩ => ⟨by rw [he]; exact congrArg (fun b => Ending.returned (.bool b)) h, n, hw⟩

set_option maxHeartbeats 8000000 in
theorem numb_c {w0 : World} {g d : Nat} {S : ByteArray} (hs : S.size ≤ 100000) (hm : Mx w0) (w : World) (p n : Nat) (h : Rdr w0 g S w p d n) (hd : isDg (bt S p) = true) (hn : n ≤ p) :
    Calls Tryz.prog 105 #[.pointer (some ⟨g, 0, none⟩)] w (Post w0 g S d w (numb tv S p n)) := by
  have hgl := h.lt
  have hw0 := h.below.size
  have hpl := bt_some (dg_pos hd)
  have h' := h.alloc (.cells #[.int .i64 0, .bool false, .slice none 0 0, .slice none 0 0, .string ⟨#[]⟩, .slice none 0 0] 27)
  have hb' := (But.refl g w).alloc (.cells #[.int .i64 0, .bool false, .slice none 0 0, .slice none 0 0, .string ⟨#[]⟩, .slice none 0 0] 27)
  have k_r := C6.new w (.int .i64 0) (.bool false) (.slice none 0 0) (.slice none 0 0) (.string ⟨#[]⟩) (.slice none 0 0)
  have hsz : (w.alloc (.cells #[.int .i64 0, .bool false, .slice none 0 0, .slice none 0 0, .string ⟨#[]⟩, .slice none 0 0] 27)).heap.size = w.heap.size + 1 := by simp
  have HR : Hid (numb tv S p n = if bt S (run isDg S p) = 46 then
    if run isDg S (run isDg S p + 1) = run isDg S p + 1 then .err (run isDg S p + 1) 2
    else numE tv S p (run isDg S (run isDg S p + 1)) n
  else numE tv S p (run isDg S p) n) := rfl
  have hq1 := run_pos hpl hd
  have hq2 := run_le isDg S (p := p) (by omega)
  have HX1 : run isDg S p - p ≤ 400 → ∃ r, Txt (S.extract p (run isDg S p)) r := fun h => txt_whole hq1 h hq2
  have HX2 : bt S (run isDg S p) = 46 → run isDg S p + 1 < run isDg S (run isDg S p + 1) → run isDg S (run isDg S p + 1) - p ≤ 400 → run isDg S (run isDg S p + 1) ≤ S.size → ∃ r, Txt (S.extract p (run isDg S (run isDg S p + 1))) r := fun h1 h2 h3 h4 => txt_point hq1 h1 h2 h3 h4
  clear hd
  generalize numb tv S p n = RES at *
  obtain ⟨h0, h1, h2, h3, f1, f2, f3⟩ := h'.facts
  go_enter Tryz.func105, Tryz.ntmps105
  go_wp2_with fail
  clear h0 h1 h2 h3 f1 f2 f3
  refine (passD_c h' (by omega) hs).mono ?_
  rintro e w1 ⟨rfl, hr, hb⟩
  replace hb' := hb'.trans hb
  replace k_r := k_r.but hb (by omega)
  have hsz1 := hb.size
  clear h' hb
  generalize w.alloc (.cells #[.int .i64 0, .bool false, .slice none 0 0, .slice none 0 0, .string ⟨#[]⟩, .slice none 0 0] 27) = wa at *
  generalize run isDg S p = a at *
  obtain ⟨h0, h1, h2, h3, f1, f2, f3⟩ := hr.facts
  have j3 : (a : Int) ≤ (S.size : Int) := by omega
  have j4 : (0 : Int) ≤ (a : Int) := by omega
  have j5 : (a : Int) ≤ 100000 := by omega
  have hpd := prefix_dot (S := S) (a := a)
  by_cases h46 : bt S a = 46
  · rw [decide_eq_true h46] at hpd
    have hal : a < S.size := bt_some (by rw [h46]; decide)
    have HPD := Lib.hid hpd
    clear hpd HX1
    rw [if_pos h46] at HR
    have HX := HX2 h46
    clear HX2 h46
    go_wp2_with fail
    go_quiet ((go_at_call 130; exact dot_q _ true HPD.out _ _))
    go_wp2_with fail
    clear h0 h1 h2 h3 f1 f2 f3
    refine (passD_c ((hr.drewN _).set1 (q := a + 1) (v := (a : Int) + 1) (by omega)) (by omega) hs).mono ?_
    rintro e w2 ⟨rfl, hr2, hb⟩
    replace hb' := ((hb'.drewN nq).set 1 (.int .i64 ((a : Int) + 1))).trans hb
    replace k_r := ((k_r.below (below_drewN' _ w1 nq)).setOther (by omega) 1 (.int .i64 ((a : Int) + 1))).but hb (by omega)
    clear hb hr
    have hq3 := le_run isDg S (a + 1)
    have hq4 := run_le isDg S (p := a + 1) (by omega)
    generalize run isDg S (a + 1) = z at *
    by_cases hz : z = a + 1
    · have hres : Hid (RES = .err (a + 1) 2) := by show _ = _; rw [HR.out]; rw [if_pos hz]
      have hzz : z - (a + 1) = 0 := by omega
      rw [hzz]
      clear HR HX
      go_wp2_with fail
      refine (fail_c 2 hr2).mono ?_
      rintro e w3 ⟨rfl, rfl⟩
      refine ⟨rfl, ?_⟩
      rw [hres.out]
      exact ⟨by rw [hz]; rfl, hb'⟩
    · rw [if_neg hz] at HR
      have i1 : ¬ (((z - (a + 1) : Nat) : Int) = 0) := by omega
      have i2 : (((z - (a + 1) : Nat) : Int) == 0) = false := beq_eq_false_iff_ne.2 i1
      replace HX := fun h => HX (by omega) h hq4
      obtain ⟨h0, h1, h2, h3, f1, f2, f3⟩ := hr2.facts
      have hr := hr2
      clear hr2
      by_cases hsh : z - p ≤ 400
      · have j1 : (p : Int) ≤ (z : Int) := by omega
        have j0 : (0 : Int) ≤ (p : Int) := by omega
        have j2 : (z : Int) ≤ (S.size : Int) := by omega
        
        have hres : Hid (RES = .ok (mk n (.num (tv (S.extract p z)))) (.num (tv (S.extract p z))) z (n + 1) false) := by show _ = _; rw [HR.out]; unfold numE; rw [if_pos hsh]
        have HT := Lib.hid (tv_of (HX hsh))
        
        clear HX hsh HR
        have hnb : g < w2.heap.size := hr.lt
        have hne : g ≠ w2.heap.size := by omega
        have hrb := k_r.lt
        go_wp2_with fail
        go_region_held3 (fun w' => w'.cell? ⟨g, 0, none⟩ = some (.string S) ∧ w'.cell? ⟨g, 1, none⟩ = some (.int .i64 z)) (first | go_keep | exact ⟨(put3_cell hne _ _ _ _).trans h0, (put3_cell hne _ _ _ _).trans h1⟩)
          (first
          | (go_at_call 138
             refine (dParse_v (S.extract p z) _ (w2.alloc (.cells #[.bool false, .slice none 0 0, .slice none 0 0] 24)).drew HT.out (hm.below ((hr.alloc (.cells #[.bool false, .slice none 0 0, .slice none 0 0] 24)).drew).below)).mono ?_
             rintro e w5 ⟨y, rfl, ht, hb5⟩
             have hy := RP.of ht
             replace hr := ((hr.alloc (.cells #[.bool false, .slice none 0 0, .slice none 0 0] 24)).drew).next hb5
             replace hb' := ((hb'.alloc (.cells #[.bool false, .slice none 0 0, .slice none 0 0] 24)).drew).trans (.of hb5)
             replace k_r := ((k_r.alloc (.cells #[.bool false, .slice none 0 0, .slice none 0 0] 24)).drew).below hb5
             have k_n := (C3.new w2 (.bool false) (.slice none 0 0) (.slice none 0 0)).drew.below hb5
             obtain ⟨n0, n1, n2, n3, n4, n5⟩ := k_n.facts
             have hzd : (w2.alloc (.cells #[.bool false, .slice none 0 0, .slice none 0 0] 24)).drew.heap.size = w2.heap.size + 1 := by simp
             have hz5 := hb5.size
             clear h0 h1 h2 h3 f1 f2 f3
             obtain ⟨h0, h1, h2, h3, f1, f2, f3⟩ := hr.facts)
          | (go_at_call 138
             refine (dParse_v (S.extract p z) _ w2.drew HT.out (hm.below (hr.drew).below)).mono ?_
             rintro e w5 ⟨y, rfl, ht, hb5⟩
             have hy := RP.of ht
             replace hr := (hr.drew).next hb5
             replace hb' := (hb'.drew).trans (.of hb5)
             replace k_r := (k_r.drew).below hb5
             have hzd : w2.drew.heap.size = w2.heap.size := rfl
             have hz5 := hb5.size
             clear h0 h1 h2 h3 f1 f2 f3
             obtain ⟨h0, h1, h2, h3, f1, f2, f3⟩ := hr.facts))
        · go_wp2_with fail
          obtain ⟨x, hx⟩ : ∃ x : Ev, Hid (x = if n < 256 then ⟨1, y, ⟨#[]⟩, none, 0, 0⟩ else Ez) := ⟨_, rfl⟩
          refine (node_c ⟨1, y, ⟨#[]⟩, none, 0, 0⟩ x hx.out (hr.alloc (.cells #[.bool y.s, .slice y.A y.n y.c, .slice y.B y.m y.d] 24)) (by omega)).mono ?_
          rintro e w7 ⟨rfl, hr7, hb7⟩
          have hb8 := (hb'.alloc (.cells #[.bool y.s, .slice y.A y.n y.c, .slice y.B y.m y.d] 24)).trans hb7
          have k8 := (k_r.alloc (.cells #[.bool y.s, .slice y.A y.n y.c, .slice y.B y.m y.d] 24)).but hb7 (by omega)
          have hzx : w5.heap.size ≤ (w5.alloc (.cells #[.bool y.s, .slice y.A y.n y.c, .slice y.B y.m y.d] 24)).heap.size := by simp
          have hz7 := hb7.size
          have hk : ∀ b, w2.drew.heap.size ≤ b → b < w5.heap.size → w7.heap[b]? = w5.heap[b]? := fun b h1 h2 => (hb7.block b (by omega) (by omega)).trans (((Below.refl w5.heap.size w5).alloc (Nat.le_refl _) (.cells #[.bool y.s, .slice y.A y.n y.c, .slice y.B y.m y.d] 24)).block b h2)
          have ht8 : Tw w7 (fun b => w.heap.size + 1 ≤ b) (mk n (.num (tv (S.extract p z)))) x := by
            have hx := hx.out
            by_cases hn : n < 256
            · rw [if_pos hn] at hx; subst hx
              rw [mk_of (by omega)]
              exact ⟨rfl, (ht.lower (Nat.zero_le _)).keepB hy (by omega) hk, fun h1 A hA => Nat.le_trans (by omega) (hy.1 h1 A hA), fun h1 A hA => Nat.le_trans (by omega) (hy.2 h1 A hA)⟩
            · rw [if_neg hn] at hx; subst hx
              rw [mk_over (by omega)]; rfl
          obtain ⟨s0, s1, s2, s3, s4, s5⟩ := k8.facts
          obtain ⟨r0, r1, r2, r3, r4, r5⟩ := k8.thaw
          go_wp2
          refine ret6 (fn := Tryz.f105) Tryz.results105 rfl rfl k8 ?_
          rw [hres.out]
          exact ⟨x, rfl, (ht8.but (put6_but _ _ _ _ _ _) (fun b h1 => by omega)).wide (fun b h1 => by omega), hr7.put (by omega) (by omega) _ _ _ _ _ _, hb8.put (Nat.le_refl _) _ _ _ _ _ _⟩
        · go_wp2_with fail
          obtain ⟨x, hx⟩ : ∃ x : Ev, Hid (x = if n < 256 then ⟨1, y, ⟨#[]⟩, none, 0, 0⟩ else Ez) := ⟨_, rfl⟩
          refine (node_c ⟨1, y, ⟨#[]⟩, none, 0, 0⟩ x hx.out (hr.put3 (b := w2.heap.size) (by omega) (by omega) (.bool y.s) (.slice y.A y.n y.c) (.slice y.B y.m y.d)) (by omega)).mono ?_
          rintro e w7 ⟨rfl, hr7, hb7⟩
          have hb8 := (hb'.put3 (b := w2.heap.size) (by omega) (.bool y.s) (.slice y.A y.n y.c) (.slice y.B y.m y.d)).trans hb7
          have k8 := (k_r.but (put3_but (b := w2.heap.size) (.bool y.s) (.slice y.A y.n y.c) (.slice y.B y.m y.d)) (by omega)).but hb7 (by omega)
          have hzx : w5.heap.size ≤ (put3 w5 w2.heap.size (.bool y.s) (.slice y.A y.n y.c) (.slice y.B y.m y.d)).heap.size := by simp
          have hz7 := hb7.size
          have hk : ∀ b, (w2.alloc (.cells #[.bool false, .slice none 0 0, .slice none 0 0] 24)).drew.heap.size ≤ b → b < w5.heap.size → w7.heap[b]? = w5.heap[b]? := fun b h1 h2 => (hb7.block b (by omega) (by omega)).trans ((put3_but (b := w2.heap.size) (.bool y.s) (.slice y.A y.n y.c) (.slice y.B y.m y.d)).block b h2 (by omega))
          have ht8 : Tw w7 (fun b => w.heap.size + 1 ≤ b) (mk n (.num (tv (S.extract p z)))) x := by
            have hx := hx.out
            by_cases hn : n < 256
            · rw [if_pos hn] at hx; subst hx
              rw [mk_of (by omega)]
              exact ⟨rfl, (ht.lower (Nat.zero_le _)).keepB hy (by omega) hk, fun h1 A hA => Nat.le_trans (by omega) (hy.1 h1 A hA), fun h1 A hA => Nat.le_trans (by omega) (hy.2 h1 A hA)⟩
            · rw [if_neg hn] at hx; subst hx
              rw [mk_over (by omega)]; rfl
          obtain ⟨s0, s1, s2, s3, s4, s5⟩ := k8.facts
          obtain ⟨r0, r1, r2, r3, r4, r5⟩ := k8.thaw
          go_wp2
          refine ret6 (fn := Tryz.f105) Tryz.results105 rfl rfl k8 ?_
          rw [hres.out]
          exact ⟨x, rfl, (ht8.but (put6_but _ _ _ _ _ _) (fun b h1 => by omega)).wide (fun b h1 => by omega), hr7.put (by omega) (by omega) _ _ _ _ _ _, hb8.put (Nat.le_refl _) _ _ _ _ _ _⟩
      · have j1 : (p : Int) ≤ (z : Int) := by omega
        have j0 : (0 : Int) ≤ (p : Int) := by omega
        have j2 : (z : Int) ≤ (S.size : Int) := by omega
        
        have hres : Hid (RES = .ok .bad (.num 0) z n true) := by show _ = _; rw [HR.out]; unfold numE; rw [if_neg hsh]
        have hsl : 400 < (S.extract p z).size ∧ (S.extract p z).size ≤ 1000000 := by rw [ByteArray.size_extract]; omega
        
        clear HX hsh HR
        have hnb : g < w2.heap.size := hr.lt
        have hne : g ≠ w2.heap.size := by omega
        have hrb := k_r.lt
        go_wp2_with fail
        go_region_held3 (fun w' => w'.cell? ⟨g, 0, none⟩ = some (.string S) ∧ w'.cell? ⟨g, 1, none⟩ = some (.int .i64 z)) (first | go_keep | exact ⟨(put3_cell hne _ _ _ _).trans h0, (put3_cell hne _ _ _ _).trans h1⟩)
          (first
          | (go_at_call 138
             refine (dParse_long (S.extract p z) (w2.alloc (.cells #[.bool false, .slice none 0 0, .slice none 0 0] 24)).drew hsl.1 hsl.2).mono ?_
             rintro e w5 ⟨rfl, hb5⟩
             replace hr := ((hr.alloc (.cells #[.bool false, .slice none 0 0, .slice none 0 0] 24)).drew).next hb5
             replace hb' := ((hb'.alloc (.cells #[.bool false, .slice none 0 0, .slice none 0 0] 24)).drew).trans (.of hb5)
             replace k_r := ((k_r.alloc (.cells #[.bool false, .slice none 0 0, .slice none 0 0] 24)).drew).below hb5
             have k_n := (C3.new w2 (.bool false) (.slice none 0 0) (.slice none 0 0)).drew.below hb5
             obtain ⟨n0, n1, n2, n3, n4, n5⟩ := k_n.facts
             have hzd : (w2.alloc (.cells #[.bool false, .slice none 0 0, .slice none 0 0] 24)).drew.heap.size = w2.heap.size + 1 := by simp
             have hz5 := hb5.size
             clear h0 h1 h2 h3 f1 f2 f3
             obtain ⟨h0, h1, h2, h3, f1, f2, f3⟩ := hr.facts)
          | (go_at_call 138
             refine (dParse_long (S.extract p z) w2.drew hsl.1 hsl.2).mono ?_
             rintro e w5 ⟨rfl, hb5⟩
             replace hr := (hr.drew).next hb5
             replace hb' := (hb'.drew).trans (.of hb5)
             replace k_r := (k_r.drew).below hb5
             have hzd : w2.drew.heap.size = w2.heap.size := rfl
             have hz5 := hb5.size
             clear h0 h1 h2 h3 f1 f2 f3
             obtain ⟨h0, h1, h2, h3, f1, f2, f3⟩ := hr.facts))
        · have k8 := (k_r.alloc (.cells #[.bool false, .slice none 0 0, .slice none 0 0] 24))
          obtain ⟨s0, s1, s2, s3, s4, s5⟩ := k8.facts
          obtain ⟨r0, r1, r2, r3, r4, r5⟩ := k8.thaw
          go_wp2
          refine ret6 (fn := Tryz.f105) Tryz.results105 rfl rfl k8 ?_
          rw [hres.out]
          exact ⟨Ez, rfl, rfl, (hr.alloc (.cells #[.bool false, .slice none 0 0, .slice none 0 0] 24)).put (by omega) (by omega) _ _ _ _ _ _, (hb'.alloc (.cells #[.bool false, .slice none 0 0, .slice none 0 0] 24)).put (Nat.le_refl _) _ _ _ _ _ _⟩
        · have k8 := (k_r.but (put3_but (b := w2.heap.size) (.bool false) (.slice none 0 0) (.slice none 0 0)) (by omega))
          obtain ⟨s0, s1, s2, s3, s4, s5⟩ := k8.facts
          obtain ⟨r0, r1, r2, r3, r4, r5⟩ := k8.thaw
          go_wp2
          refine ret6 (fn := Tryz.f105) Tryz.results105 rfl rfl k8 ?_
          rw [hres.out]
          exact ⟨Ez, rfl, rfl, (hr.put3 (b := w2.heap.size) (by omega) (by omega) (.bool false) (.slice none 0 0) (.slice none 0 0)).put (by omega) (by omega) _ _ _ _ _ _, (hb'.put3 (b := w2.heap.size) (by omega) (.bool false) (.slice none 0 0) (.slice none 0 0)).put (Nat.le_refl _) _ _ _ _ _ _⟩
  · rw [decide_eq_false h46] at hpd
    have HPD := Lib.hid hpd
    clear hpd HX2
    rw [if_neg h46] at HR
    have HX := HX1
    clear HX1 h46
    go_wp2_with fail
    go_quiet ((go_at_call 130; exact dot_q _ false HPD.out _ _))
    replace hr := hr.drewN nq
    replace hb' := hb'.drewN nq
    replace k_r := k_r.below (below_drewN' _ w1 nq)
    clear h0 h1 h2 h3 f1 f2 f3
    generalize w1.drewN nq = w2 at *
    obtain ⟨h0, h1, h2, h3, f1, f2, f3⟩ := hr.facts
    generalize hza : a = z at *
    clear hza
    by_cases hsh : z - p ≤ 400
    · have j1 : (p : Int) ≤ (z : Int) := by omega
      have j0 : (0 : Int) ≤ (p : Int) := by omega
      have j2 : (z : Int) ≤ (S.size : Int) := by omega
      
      have hres : Hid (RES = .ok (mk n (.num (tv (S.extract p z)))) (.num (tv (S.extract p z))) z (n + 1) false) := by show _ = _; rw [HR.out]; unfold numE; rw [if_pos hsh]
      have HT := Lib.hid (tv_of (HX hsh))
      
      clear HX hsh HR
      have hnb : g < w2.heap.size := hr.lt
      have hne : g ≠ w2.heap.size := by omega
      have hrb := k_r.lt
      go_wp2_with fail
      go_region_held3 (fun w' => w'.cell? ⟨g, 0, none⟩ = some (.string S) ∧ w'.cell? ⟨g, 1, none⟩ = some (.int .i64 z)) (first | go_keep | exact ⟨(put3_cell hne _ _ _ _).trans h0, (put3_cell hne _ _ _ _).trans h1⟩)
        (first
        | (go_at_call 138
           refine (dParse_v (S.extract p z) _ (w2.alloc (.cells #[.bool false, .slice none 0 0, .slice none 0 0] 24)).drew HT.out (hm.below ((hr.alloc (.cells #[.bool false, .slice none 0 0, .slice none 0 0] 24)).drew).below)).mono ?_
           rintro e w5 ⟨y, rfl, ht, hb5⟩
           have hy := RP.of ht
           replace hr := ((hr.alloc (.cells #[.bool false, .slice none 0 0, .slice none 0 0] 24)).drew).next hb5
           replace hb' := ((hb'.alloc (.cells #[.bool false, .slice none 0 0, .slice none 0 0] 24)).drew).trans (.of hb5)
           replace k_r := ((k_r.alloc (.cells #[.bool false, .slice none 0 0, .slice none 0 0] 24)).drew).below hb5
           have k_n := (C3.new w2 (.bool false) (.slice none 0 0) (.slice none 0 0)).drew.below hb5
           obtain ⟨n0, n1, n2, n3, n4, n5⟩ := k_n.facts
           have hzd : (w2.alloc (.cells #[.bool false, .slice none 0 0, .slice none 0 0] 24)).drew.heap.size = w2.heap.size + 1 := by simp
           have hz5 := hb5.size
           clear h0 h1 h2 h3 f1 f2 f3
           obtain ⟨h0, h1, h2, h3, f1, f2, f3⟩ := hr.facts)
        | (go_at_call 138
           refine (dParse_v (S.extract p z) _ w2.drew HT.out (hm.below (hr.drew).below)).mono ?_
           rintro e w5 ⟨y, rfl, ht, hb5⟩
           have hy := RP.of ht
           replace hr := (hr.drew).next hb5
           replace hb' := (hb'.drew).trans (.of hb5)
           replace k_r := (k_r.drew).below hb5
           have hzd : w2.drew.heap.size = w2.heap.size := rfl
           have hz5 := hb5.size
           clear h0 h1 h2 h3 f1 f2 f3
           obtain ⟨h0, h1, h2, h3, f1, f2, f3⟩ := hr.facts))
      · go_wp2_with fail
        obtain ⟨x, hx⟩ : ∃ x : Ev, Hid (x = if n < 256 then ⟨1, y, ⟨#[]⟩, none, 0, 0⟩ else Ez) := ⟨_, rfl⟩
        refine (node_c ⟨1, y, ⟨#[]⟩, none, 0, 0⟩ x hx.out (hr.alloc (.cells #[.bool y.s, .slice y.A y.n y.c, .slice y.B y.m y.d] 24)) (by omega)).mono ?_
        rintro e w7 ⟨rfl, hr7, hb7⟩
        have hb8 := (hb'.alloc (.cells #[.bool y.s, .slice y.A y.n y.c, .slice y.B y.m y.d] 24)).trans hb7
        have k8 := (k_r.alloc (.cells #[.bool y.s, .slice y.A y.n y.c, .slice y.B y.m y.d] 24)).but hb7 (by omega)
        have hzx : w5.heap.size ≤ (w5.alloc (.cells #[.bool y.s, .slice y.A y.n y.c, .slice y.B y.m y.d] 24)).heap.size := by simp
        have hz7 := hb7.size
        have hk : ∀ b, w2.drew.heap.size ≤ b → b < w5.heap.size → w7.heap[b]? = w5.heap[b]? := fun b h1 h2 => (hb7.block b (by omega) (by omega)).trans (((Below.refl w5.heap.size w5).alloc (Nat.le_refl _) (.cells #[.bool y.s, .slice y.A y.n y.c, .slice y.B y.m y.d] 24)).block b h2)
        have ht8 : Tw w7 (fun b => w.heap.size + 1 ≤ b) (mk n (.num (tv (S.extract p z)))) x := by
          have hx := hx.out
          by_cases hn : n < 256
          · rw [if_pos hn] at hx; subst hx
            rw [mk_of (by omega)]
            exact ⟨rfl, (ht.lower (Nat.zero_le _)).keepB hy (by omega) hk, fun h1 A hA => Nat.le_trans (by omega) (hy.1 h1 A hA), fun h1 A hA => Nat.le_trans (by omega) (hy.2 h1 A hA)⟩
          · rw [if_neg hn] at hx; subst hx
            rw [mk_over (by omega)]; rfl
        obtain ⟨s0, s1, s2, s3, s4, s5⟩ := k8.facts
        obtain ⟨r0, r1, r2, r3, r4, r5⟩ := k8.thaw
        go_wp2
        refine ret6 (fn := Tryz.f105) Tryz.results105 rfl rfl k8 ?_
        rw [hres.out]
        exact ⟨x, rfl, (ht8.but (put6_but _ _ _ _ _ _) (fun b h1 => by omega)).wide (fun b h1 => by omega), hr7.put (by omega) (by omega) _ _ _ _ _ _, hb8.put (Nat.le_refl _) _ _ _ _ _ _⟩
      · go_wp2_with fail
        obtain ⟨x, hx⟩ : ∃ x : Ev, Hid (x = if n < 256 then ⟨1, y, ⟨#[]⟩, none, 0, 0⟩ else Ez) := ⟨_, rfl⟩
        refine (node_c ⟨1, y, ⟨#[]⟩, none, 0, 0⟩ x hx.out (hr.put3 (b := w2.heap.size) (by omega) (by omega) (.bool y.s) (.slice y.A y.n y.c) (.slice y.B y.m y.d)) (by omega)).mono ?_
        rintro e w7 ⟨rfl, hr7, hb7⟩
        have hb8 := (hb'.put3 (b := w2.heap.size) (by omega) (.bool y.s) (.slice y.A y.n y.c) (.slice y.B y.m y.d)).trans hb7
        have k8 := (k_r.but (put3_but (b := w2.heap.size) (.bool y.s) (.slice y.A y.n y.c) (.slice y.B y.m y.d)) (by omega)).but hb7 (by omega)
        have hzx : w5.heap.size ≤ (put3 w5 w2.heap.size (.bool y.s) (.slice y.A y.n y.c) (.slice y.B y.m y.d)).heap.size := by simp
        have hz7 := hb7.size
        have hk : ∀ b, (w2.alloc (.cells #[.bool false, .slice none 0 0, .slice none 0 0] 24)).drew.heap.size ≤ b → b < w5.heap.size → w7.heap[b]? = w5.heap[b]? := fun b h1 h2 => (hb7.block b (by omega) (by omega)).trans ((put3_but (b := w2.heap.size) (.bool y.s) (.slice y.A y.n y.c) (.slice y.B y.m y.d)).block b h2 (by omega))
        have ht8 : Tw w7 (fun b => w.heap.size + 1 ≤ b) (mk n (.num (tv (S.extract p z)))) x := by
          have hx := hx.out
          by_cases hn : n < 256
          · rw [if_pos hn] at hx; subst hx
            rw [mk_of (by omega)]
            exact ⟨rfl, (ht.lower (Nat.zero_le _)).keepB hy (by omega) hk, fun h1 A hA => Nat.le_trans (by omega) (hy.1 h1 A hA), fun h1 A hA => Nat.le_trans (by omega) (hy.2 h1 A hA)⟩
          · rw [if_neg hn] at hx; subst hx
            rw [mk_over (by omega)]; rfl
        obtain ⟨s0, s1, s2, s3, s4, s5⟩ := k8.facts
        obtain ⟨r0, r1, r2, r3, r4, r5⟩ := k8.thaw
        go_wp2
        refine ret6 (fn := Tryz.f105) Tryz.results105 rfl rfl k8 ?_
        rw [hres.out]
        exact ⟨x, rfl, (ht8.but (put6_but _ _ _ _ _ _) (fun b h1 => by omega)).wide (fun b h1 => by omega), hr7.put (by omega) (by omega) _ _ _ _ _ _, hb8.put (Nat.le_refl _) _ _ _ _ _ _⟩
    · have j1 : (p : Int) ≤ (z : Int) := by omega
      have j0 : (0 : Int) ≤ (p : Int) := by omega
      have j2 : (z : Int) ≤ (S.size : Int) := by omega
      
      have hres : Hid (RES = .ok .bad (.num 0) z n true) := by show _ = _; rw [HR.out]; unfold numE; rw [if_neg hsh]
      have hsl : 400 < (S.extract p z).size ∧ (S.extract p z).size ≤ 1000000 := by rw [ByteArray.size_extract]; omega
      
      clear HX hsh HR
      have hnb : g < w2.heap.size := hr.lt
      have hne : g ≠ w2.heap.size := by omega
      have hrb := k_r.lt
      go_wp2_with fail
      go_region_held3 (fun w' => w'.cell? ⟨g, 0, none⟩ = some (.string S) ∧ w'.cell? ⟨g, 1, none⟩ = some (.int .i64 z)) (first | go_keep | exact ⟨(put3_cell hne _ _ _ _).trans h0, (put3_cell hne _ _ _ _).trans h1⟩)
        (first
        | (go_at_call 138
           refine (dParse_long (S.extract p z) (w2.alloc (.cells #[.bool false, .slice none 0 0, .slice none 0 0] 24)).drew hsl.1 hsl.2).mono ?_
           rintro e w5 ⟨rfl, hb5⟩
           replace hr := ((hr.alloc (.cells #[.bool false, .slice none 0 0, .slice none 0 0] 24)).drew).next hb5
           replace hb' := ((hb'.alloc (.cells #[.bool false, .slice none 0 0, .slice none 0 0] 24)).drew).trans (.of hb5)
           replace k_r := ((k_r.alloc (.cells #[.bool false, .slice none 0 0, .slice none 0 0] 24)).drew).below hb5
           have k_n := (C3.new w2 (.bool false) (.slice none 0 0) (.slice none 0 0)).drew.below hb5
           obtain ⟨n0, n1, n2, n3, n4, n5⟩ := k_n.facts
           have hzd : (w2.alloc (.cells #[.bool false, .slice none 0 0, .slice none 0 0] 24)).drew.heap.size = w2.heap.size + 1 := by simp
           have hz5 := hb5.size
           clear h0 h1 h2 h3 f1 f2 f3
           obtain ⟨h0, h1, h2, h3, f1, f2, f3⟩ := hr.facts)
        | (go_at_call 138
           refine (dParse_long (S.extract p z) w2.drew hsl.1 hsl.2).mono ?_
           rintro e w5 ⟨rfl, hb5⟩
           replace hr := (hr.drew).next hb5
           replace hb' := (hb'.drew).trans (.of hb5)
           replace k_r := (k_r.drew).below hb5
           have hzd : w2.drew.heap.size = w2.heap.size := rfl
           have hz5 := hb5.size
           clear h0 h1 h2 h3 f1 f2 f3
           obtain ⟨h0, h1, h2, h3, f1, f2, f3⟩ := hr.facts))
      · have k8 := (k_r.alloc (.cells #[.bool false, .slice none 0 0, .slice none 0 0] 24))
        obtain ⟨s0, s1, s2, s3, s4, s5⟩ := k8.facts
        obtain ⟨r0, r1, r2, r3, r4, r5⟩ := k8.thaw
        go_wp2
        refine ret6 (fn := Tryz.f105) Tryz.results105 rfl rfl k8 ?_
        rw [hres.out]
        exact ⟨Ez, rfl, rfl, (hr.alloc (.cells #[.bool false, .slice none 0 0, .slice none 0 0] 24)).put (by omega) (by omega) _ _ _ _ _ _, (hb'.alloc (.cells #[.bool false, .slice none 0 0, .slice none 0 0] 24)).put (Nat.le_refl _) _ _ _ _ _ _⟩
      · have k8 := (k_r.but (put3_but (b := w2.heap.size) (.bool false) (.slice none 0 0) (.slice none 0 0)) (by omega))
        obtain ⟨s0, s1, s2, s3, s4, s5⟩ := k8.facts
        obtain ⟨r0, r1, r2, r3, r4, r5⟩ := k8.thaw
        go_wp2
        refine ret6 (fn := Tryz.f105) Tryz.results105 rfl rfl k8 ?_
        rw [hres.out]
        exact ⟨Ez, rfl, rfl, (hr.put3 (b := w2.heap.size) (by omega) (by omega) (.bool false) (.slice none 0 0) (.slice none 0 0)).put (by omega) (by omega) _ _ _ _ _ _, (hb'.put3 (b := w2.heap.size) (by omega) (.bool false) (.slice none 0 0) (.slice none 0 0)).put (Nat.le_refl _) _ _ _ _ _ _⟩
end Go.Proofs.YtcmkgoikmleanaaGreatDoor

namespace Go.Proofs.YtcmkgoikmleanaaGreatDoor
set_option maxRecDepth 20000
open Go.RowKit

def signM (_ : ByteArray) (dp : Option ((Nat → Nat → PR) × (Nat → Nat → PR))) (p n : Nat) : PR :=
  match dp with
  | none => .err p 4
  | some (f, _) => (f (p + 1) n).then fun t u p2 n2 lg => .ok (mk n2 (.neg t)) (.neg u) p2 (n2 + 1) lg
def brackM (S : ByteArray) (dp : Option ((Nat → Nat → PR) × (Nat → Nat → PR))) (p n : Nat) : PR :=
  match dp with
  | none => .err p 4
  | some (_, s) => (s (p + 1) n).then fun t u p2 n2 lg => if bt S (skp S p2) = 41 then .ok t u (skp S p2 + 1) n2 lg else .err (skp S p2) 2

set_option maxHeartbeats 1600000 in
theorem signed_deep {w0 : World} {g : Nat} {S : ByteArray} (w : World) (p n : Nat) (h : Rdr w0 g S w p 31 n) :
    Calls Tryz.prog 102 #[.pointer (some ⟨g, 0, none⟩)] w (Post w0 g S 31 w (signM S none p n)) := by
  go_enter Tryz.func102, Tryz.ntmps102
  go_wp2_with fail
  refine (enter_err (h.alloc (.cells #[.int .i64 0, .bool false, .slice none 0 0, .slice none 0 0, .string ⟨#[]⟩, .slice none 0 0] 27))).mono ?_
  rintro e w1 ⟨rfl, hb⟩
  exact ⟨rfl, rfl, ((But.refl g w).alloc _).trans hb⟩

set_option maxHeartbeats 1600000 in
theorem bracketed_deep {w0 : World} {g : Nat} {S : ByteArray} (w : World) (p n : Nat) (h : Rdr w0 g S w p 31 n) :
    Calls Tryz.prog 103 #[.pointer (some ⟨g, 0, none⟩)] w (Post w0 g S 31 w (brackM S none p n)) := by
  go_enter Tryz.func103, Tryz.ntmps103
  go_wp2_with fail
  refine (enter_err (h.alloc (.cells #[.int .i64 0, .bool false, .slice none 0 0, .slice none 0 0, .string ⟨#[]⟩, .slice none 0 0] 27))).mono ?_
  rintro e w1 ⟨rfl, hb⟩
  exact ⟨rfl, rfl, ((But.refl g w).alloc _).trans hb⟩

set_option maxHeartbeats 4000000 in
theorem signed_c {w0 : World} {g d : Nat} {S : ByteArray} {m : Nat → Nat → PR} {m2 : Nat → Nat → PR} (HP : Hid (Part w0 g S 79 (d + 1) m)) (HG : Hid (∀ p n, p ≤ S.size → Good S p n (m p n))) (hs : S.size ≤ 100000) (hd : d < 31) (w : World) (p n : Nat) (h : Rdr w0 g S w p d n) (hp : p < S.size) (hn : n ≤ p) :
    Calls Tryz.prog 102 #[.pointer (some ⟨g, 0, none⟩)] w (Post w0 g S d w (signM S (some (m, m2)) p n)) := by
  have hgl := h.lt
  have hw0 := h.below.size
  have h' := h.alloc (.cells #[.int .i64 0, .bool false, .slice none 0 0, .slice none 0 0, .string ⟨#[]⟩, .slice none 0 0] 27)
  have hb' := (But.refl g w).alloc (.cells #[.int .i64 0, .bool false, .slice none 0 0, .slice none 0 0, .string ⟨#[]⟩, .slice none 0 0] 27)
  have k_r := C6.new w (.int .i64 0) (.bool false) (.slice none 0 0) (.slice none 0 0) (.string ⟨#[]⟩) (.slice none 0 0)
  have hsz : (w.alloc (.cells #[.int .i64 0, .bool false, .slice none 0 0, .slice none 0 0, .string ⟨#[]⟩, .slice none 0 0] 27)).heap.size = w.heap.size + 1 := by simp
  have HR : Hid (signM S (some (m, m2)) p n = (m (p + 1) n).then fun t u p2 n2 lg => .ok (mk n2 (.neg t)) (.neg u) p2 (n2 + 1) lg) := rfl
  have HGp := HG.out (p + 1) n (by omega)
  generalize signM S (some (m, m2)) p n = RES at *
  go_enter Tryz.func102, Tryz.ntmps102
  go_wp2_with fail
  refine (enter_ok h' hd (by omega)).mono ?_
  rintro e w1 ⟨rfl, hr, hb⟩
  replace hb' := hb'.trans hb
  replace k_r := k_r.but hb (by omega)
  have hsz1 := hb.size
  clear hb h'
  generalize w.alloc (.cells #[.int .i64 0, .bool false, .slice none 0 0, .slice none 0 0, .string ⟨#[]⟩, .slice none 0 0] 27) = wa at *
  go_wp2_with fail
  refine (HP.out _ (p + 1) n hr (by omega) (by omega)).mono ?_
  generalize m (p + 1) n = r0 at *
  cases r0 with
  | err a c =>
    rintro e w2 ⟨rfl, hb⟩
    refine ⟨rfl, ?_⟩
    rw [HR.out]
    exact ⟨rfl, hb'.trans hb⟩
  | ok t u p2 n2 lg =>
    rintro e w2 ⟨v, rfl, ht, hr2, hb⟩
    have hp2 := HGp.le
    have hl2 := HGp.lt
    have hn2 : n2 + 1 ≤ p2 := by have := HGp.step; omega
    have HR2 : Hid (RES = .ok (mk n2 (.neg t)) (.neg u) p2 (n2 + 1) lg) := HR
    replace hb' := hb'.trans hb
    replace k_r := k_r.but hb (by omega)
    have hsz2 := hb.size
    replace ht := ht.wide (Q := fun b => w.heap.size + 1 ≤ b) (fun b h1 => by omega)
    clear hb hr HGp HR HP HG
    go_wp2_with fail
    obtain ⟨x, hx⟩ : ∃ x : Ev, Hid (x = if n2 < 256 then ⟨7, Rz, ⟨#[]⟩, some ⟨w2.heap.size, 0, none⟩, 1, 1⟩ else Ez) := ⟨_, rfl⟩
    refine (node_c ⟨7, Rz, ⟨#[]⟩, some ⟨w2.heap.size, 0, none⟩, 1, 1⟩ x hx.out (hr2.alloc _) (by omega)).mono ?_
    rintro e w3 ⟨rfl, hr3, hb3⟩
    have hnew := heap_alloc_new w2 (.cells #[.int .i64 v.k, .bool v.r.s, .slice v.r.A v.r.n v.r.c, .slice v.r.B v.r.m v.r.d, .string v.s, .slice v.K v.n v.c] 27)
    have hz : (w2.alloc (.cells #[.int .i64 v.k, .bool v.r.s, .slice v.r.A v.r.n v.r.c, .slice v.r.B v.r.m v.r.d, .string v.s, .slice v.K v.n v.c] 27)).heap.size = w2.heap.size + 1 := by simp
    have hz3 := hb3.size
    replace hnew := (hb3.block w2.heap.size (by omega) (by omega)).trans hnew
    replace k_r := (k_r.alloc _).but hb3 (by omega)
    replace ht := (ht.alloc _).but hb3 (fun b h1 => by omega)
    replace hb' := (hb'.alloc _).trans hb3
    have ht3 : Tw w3 (fun b => w.heap.size + 1 ≤ b) (mk n2 (.neg t)) x := by
      have hx := hx.out
      by_cases hn : n2 < 256
      · rw [if_pos hn] at hx; subst hx
        rw [mk_of (by omega)]
        exact ⟨w2.heap.size, v, rfl, by omega, by omega, hnew, ht⟩
      · rw [if_neg hn] at hx; subst hx
        rw [mk_over (by omega)]; rfl
    clear hb3 hnew ht
    have k_e := C6.new w3 (.int .i64 x.k) (.bool x.r.s) (.slice x.r.A x.r.n x.r.c) (.slice x.r.B x.r.m x.r.d) (.string x.s) (.slice x.K x.n x.c)
    replace k_r := k_r.alloc (.cells #[.int .i64 x.k, .bool x.r.s, .slice x.r.A x.r.n x.r.c, .slice x.r.B x.r.m x.r.d, .string x.s, .slice x.K x.n x.c] 27)
    replace hr3 := hr3.alloc (.cells #[.int .i64 x.k, .bool x.r.s, .slice x.r.A x.r.n x.r.c, .slice x.r.B x.r.m x.r.d, .string x.s, .slice x.K x.n x.c] 27)
    replace hb' := hb'.alloc (.cells #[.int .i64 x.k, .bool x.r.s, .slice x.r.A x.r.n x.r.c, .slice x.r.B x.r.m x.r.d, .string x.s, .slice x.K x.n x.c] 27)
    replace ht3 := ht3.alloc (.cells #[.int .i64 x.k, .bool x.r.s, .slice x.r.A x.r.n x.r.c, .slice x.r.B x.r.m x.r.d, .string x.s, .slice x.K x.n x.c] 27)
    obtain ⟨h0, h1, h2, h3, f1, f2, f3⟩ := hr3.facts
    obtain ⟨e0, e1, e2, e3, e4, e5⟩ := k_e.facts
    obtain ⟨s0, s1, s2, s3, s4, s5⟩ := k_r.facts
    obtain ⟨r0, r1, r2, r3, r4, r5⟩ := k_r.thaw
    have i0 : ((d + 1 : Nat) : Int) = (d : Int) + 1 := by omega
    have i1 : (d : Int) < 31 := by omega
    have i2 : (0 : Int) ≤ (d : Int) := by omega
    have hgr : g ≠ w3.heap.size := by omega
    go_wp2
    refine ret6 (fn := Tryz.f102) Tryz.results102 rfl rfl (k_r.setOther (g := g) (by omega) 2 (.int .i64 (d : Int))) ?_
    rw [HR2.out]
    exact ⟨x, rfl, ((ht3.but ((But.refl g _).set 2 (.int .i64 (d : Int))) (fun b h1 => by omega)).but (put6_but _ _ _ _ _ _) (fun b h1 => by omega)).wide (fun b h1 => by omega), (hr3.set2 (q := d) rfl).put (by omega) (by omega) _ _ _ _ _ _, (hb'.set 2 _).put (Nat.le_refl _) _ _ _ _ _ _⟩

set_option maxHeartbeats 4000000 in
theorem bracketed_c {w0 : World} {g d : Nat} {S : ByteArray} {m : Nat → Nat → PR} {m2 : Nat → Nat → PR} (HP : Hid (Part w0 g S 31 (d + 1) m)) (HG : Hid (∀ p n, p ≤ S.size → Good S p n (m p n))) (hs : S.size ≤ 100000) (hd : d < 31) (w : World) (p n : Nat) (h : Rdr w0 g S w p d n) (hp : p < S.size) (hn : n ≤ p) :
    Calls Tryz.prog 103 #[.pointer (some ⟨g, 0, none⟩)] w (Post w0 g S d w (brackM S (some (m2, m)) p n)) := by
  have hgl := h.lt
  have hw0 := h.below.size
  have h' := h.alloc (.cells #[.int .i64 0, .bool false, .slice none 0 0, .slice none 0 0, .string ⟨#[]⟩, .slice none 0 0] 27)
  have hb' := (But.refl g w).alloc (.cells #[.int .i64 0, .bool false, .slice none 0 0, .slice none 0 0, .string ⟨#[]⟩, .slice none 0 0] 27)
  have k_r := C6.new w (.int .i64 0) (.bool false) (.slice none 0 0) (.slice none 0 0) (.string ⟨#[]⟩) (.slice none 0 0)
  have hsz : (w.alloc (.cells #[.int .i64 0, .bool false, .slice none 0 0, .slice none 0 0, .string ⟨#[]⟩, .slice none 0 0] 27)).heap.size = w.heap.size + 1 := by simp
  have HR : Hid (brackM S (some (m2, m)) p n = (m (p + 1) n).then fun t u p2 n2 lg => if bt S (skp S p2) = 41 then .ok t u (skp S p2 + 1) n2 lg else .err (skp S p2) 2) := rfl
  have HGp := HG.out (p + 1) n (by omega)
  generalize brackM S (some (m2, m)) p n = RES at *
  go_enter Tryz.func103, Tryz.ntmps103
  go_wp2_with fail
  refine (enter_ok h' hd (by omega)).mono ?_
  rintro e w1 ⟨rfl, hr, hb⟩
  replace hb' := hb'.trans hb
  replace k_r := k_r.but hb (by omega)
  have hsz1 := hb.size
  clear hb h'
  generalize w.alloc (.cells #[.int .i64 0, .bool false, .slice none 0 0, .slice none 0 0, .string ⟨#[]⟩, .slice none 0 0] 27) = wa at *
  go_wp2_with fail
  refine (HP.out _ (p + 1) n hr (by omega) (by omega)).mono ?_
  generalize m (p + 1) n = r0 at *
  cases r0 with
  | err a c =>
    rintro e w2 ⟨rfl, hb⟩
    refine ⟨rfl, ?_⟩
    rw [HR.out]
    exact ⟨rfl, hb'.trans hb⟩
  | ok t u p2 n2 lg =>
    rintro e w2 ⟨v, rfl, ht, hr2, hb⟩
    have hp2 := HGp.le
    have hl2 := HGp.lt
    have hn2 : n2 + 1 ≤ p2 := by have := HGp.step; omega
    have HR2 : Hid (RES = if bt S (skp S p2) = 41 then .ok t u (skp S p2 + 1) n2 lg else .err (skp S p2) 2) := HR
    replace hb' := hb'.trans hb
    replace k_r := k_r.but hb (by omega)
    have hsz2 := hb.size
    replace ht := ht.wide (Q := fun b => w.heap.size + 1 ≤ b) (fun b h1 => by omega)
    clear hb hr HGp HR HP HG
    have k_e := C6.new w2 (.int .i64 v.k) (.bool v.r.s) (.slice v.r.A v.r.n v.r.c) (.slice v.r.B v.r.m v.r.d) (.string v.s) (.slice v.K v.n v.c)
    replace k_r := k_r.alloc (.cells #[.int .i64 v.k, .bool v.r.s, .slice v.r.A v.r.n v.r.c, .slice v.r.B v.r.m v.r.d, .string v.s, .slice v.K v.n v.c] 27)
    replace hr2 := hr2.alloc (.cells #[.int .i64 v.k, .bool v.r.s, .slice v.r.A v.r.n v.r.c, .slice v.r.B v.r.m v.r.d, .string v.s, .slice v.K v.n v.c] 27)
    replace hb' := hb'.alloc (.cells #[.int .i64 v.k, .bool v.r.s, .slice v.r.A v.r.n v.r.c, .slice v.r.B v.r.m v.r.d, .string v.s, .slice v.K v.n v.c] 27)
    replace ht := (ht.lt.wide (Q := fun b => w.heap.size + 1 ≤ b ∧ b ≠ w2.heap.size) (fun b ⟨h1, h2⟩ => ⟨h1, by omega⟩)).alloc (.cells #[.int .i64 v.k, .bool v.r.s, .slice v.r.A v.r.n v.r.c, .slice v.r.B v.r.m v.r.d, .string v.s, .slice v.K v.n v.c] 27)
    have hz : (w2.alloc (.cells #[.int .i64 v.k, .bool v.r.s, .slice v.r.A v.r.n v.r.c, .slice v.r.B v.r.m v.r.d, .string v.s, .slice v.K v.n v.c] 27)).heap.size = w2.heap.size + 1 := by simp
    go_wp2_with fail
    refine (next_c hr2 hp2 hs).mono ?_
    rintro e w3 ⟨rfl, hr3, hb3⟩
    replace k_e := k_e.but hb3 (by omega)
    replace k_r := k_r.but hb3 (by omega)
    replace ht := ht.but hb3 (fun b ⟨h1, _⟩ => by omega)
    replace hb' := hb'.trans hb3
    have hq1 := skp_le S p2
    have hq2 := skp_ge S hp2
    generalize w2.alloc (.cells #[.int .i64 v.k, .bool v.r.s, .slice v.r.A v.r.n v.r.c, .slice v.r.B v.r.m v.r.d, .string v.s, .slice v.K v.n v.c] 27) = wb at *
    by_cases h41 : bt S (skp S p2) = 41
    · have hres : Hid (RES = .ok t u (skp S p2 + 1) n2 lg) := by show _ = _; rw [HR2.out, if_pos h41]
      have i41 : ((bt S (skp S p2)).toNat : Int) = 41 := by rw [h41]; rfl
      rw [i41]
      clear HR2 h41 i41
      generalize skp S p2 = q at *
      obtain ⟨h0, h1, h2, h3, f1, f2, f3⟩ := hr3.facts
      obtain ⟨e0, e1, e2, e3, e4, e5⟩ := k_e.facts
      obtain ⟨s0, s1, s2, s3, s4, s5⟩ := k_r.facts
      obtain ⟨r0, r1, r2, r3, r4, r5⟩ := k_r.thaw
      have i0 : ((d + 1 : Nat) : Int) = (d : Int) + 1 := by omega
      have i1 : (d : Int) < 31 := by omega
      have i2 : (0 : Int) ≤ (d : Int) := by omega
      have i3 : (q : Int) ≤ 100000 := by omega
      have i4 : (0 : Int) ≤ (q : Int) := by omega
      have hgr : g ≠ w2.heap.size := by omega
      go_wp2
      refine ret6 (fn := Tryz.f103) Tryz.results103 rfl rfl ((k_r.setOther (g := g) (by omega) 1 (.int .i64 ((q : Int) + 1))).setOther (g := g) (by omega) 2 (.int .i64 (d : Int))) ?_
      rw [hres.out]
      exact ⟨v, rfl, ((ht.but (((But.refl g _).set 1 (.int .i64 ((q : Int) + 1))).set 2 (.int .i64 (d : Int))) (fun b ⟨h1, _⟩ => by omega)).but (put6_but _ _ _ _ _ _) (fun b ⟨h1, _⟩ => by omega)).wide (fun b ⟨h1, _⟩ => by omega), ((hr3.set1 (q := q + 1) (by omega)).set2 (q := d) rfl).put (by omega) (by omega) _ _ _ _ _ _, ((hb'.set 1 _).set 2 _).put (Nat.le_refl _) _ _ _ _ _ _⟩
    · have hres : Hid (RES = .err (skp S p2) 2) := by show _ = _; rw [HR2.out, if_neg h41]
      have n41 : (bt S (skp S p2)).toNat ≠ 41 := u8_ne (k := 41) (by omega) h41
      have i41 : ¬ (((bt S (skp S p2)).toNat : Int) = 41) := by omega
      have j41 : (((bt S (skp S p2)).toNat : Int) != 41) = true := by rw [bne_iff_ne]; exact i41
      clear HR2 h41 n41
      go_wp2_with fail
      refine (fail_c 2 hr3).mono ?_
      rintro e w4 ⟨rfl, rfl⟩
      refine ⟨rfl, ?_⟩
      rw [hres.out]
      exact ⟨rfl, hb'⟩
end Go.Proofs.YtcmkgoikmleanaaGreatDoor

namespace Go.Proofs.YtcmkgoikmleanaaGreatDoor
set_option maxRecDepth 20000
open Go.RowKit

theorem fac_eq (S : ByteArray) (dp : Option ((Nat → Nat → PR) × (Nat → Nat → PR))) (p n : Nat) : fac tv S dp p n =
    if bt S (skp S p) = 45 then signM S dp (skp S p) n else if bt S (skp S p) = 40 then brackM S dp (skp S p) n
    else if isDg (bt S (skp S p)) then numb tv S (skp S p) n else if isLw (bt S (skp S p)) then name S (skp S p) n else .err (skp S p) 2 := by
  unfold fac signM brackM
  cases dp <;> rfl

/-- What a callee answers is stored and answered. -/
theorem Post.give {w0 w wa w2 : World} {g d : Nat} {S : ByteArray} {t u : Ex} {p n : Nat} {lg : Bool} {v : Ev} (hgl : g < w.heap.size) (hw0 : w0.heap.size ≤ w.heap.size) (hsz : w.heap.size + 1 ≤ wa.heap.size)
    (ht : Tw w2 (fun b => wa.heap.size ≤ b) t v) (hr : Rdr w0 g S w2 p d n) (hb : But g w w2) : Post w0 g S d w (.ok t u p n lg) (.returned (.agg #[.int .i64 v.k, .bool v.r.s, .slice v.r.A v.r.n v.r.c, .slice v.r.B v.r.m v.r.d, .string v.s, .slice v.K v.n v.c])) (put6 w2 w.heap.size (.int .i64 v.k) (.bool v.r.s) (.slice v.r.A v.r.n v.r.c) (.slice v.r.B v.r.m v.r.d) (.string v.s) (.slice v.K v.n v.c)) :=
  ⟨v, rfl, (ht.but (put6_but _ _ _ _ _ _) (fun b h1 => by omega)).wide (fun b h1 => by omega), hr.put (by omega) (by omega) _ _ _ _ _ _, hb.put (Nat.le_refl _) _ _ _ _ _ _⟩

def Callee (w0 : World) (g : Nat) (S : ByteArray) (f d : Nat) (m : Nat → Nat → PR) : Prop :=
  ∀ (w : World) (p n : Nat), Rdr w0 g S w p d n → p < S.size → n ≤ p → Calls Tryz.prog f #[.pointer (some ⟨g, 0, none⟩)] w (Post w0 g S d w (m p n))

set_option maxHeartbeats 8000000 in
theorem factor_c {w0 : World} {g d : Nat} {S : ByteArray} {dp : Option ((Nat → Nat → PR) × (Nat → Nat → PR))} (hs : S.size ≤ 100000) (hm : Mx w0)
    (HS : Hid (Callee w0 g S 102 d (signM S dp))) (HB : Hid (Callee w0 g S 103 d (brackM S dp))) :
    Part w0 g S 79 d (fac tv S dp) := by
  intro w p n h hp hn
  have hgl := h.lt
  have hw0 := h.below.size
  have h' := h.alloc (.cells #[.int .i64 0, .bool false, .slice none 0 0, .slice none 0 0, .string ⟨#[]⟩, .slice none 0 0] 27)
  have hb' := (But.refl g w).alloc (.cells #[.int .i64 0, .bool false, .slice none 0 0, .slice none 0 0, .string ⟨#[]⟩, .slice none 0 0] 27)
  have k_r := C6.new w (.int .i64 0) (.bool false) (.slice none 0 0) (.slice none 0 0) (.string ⟨#[]⟩) (.slice none 0 0)
  have hsz : (w.alloc (.cells #[.int .i64 0, .bool false, .slice none 0 0, .slice none 0 0, .string ⟨#[]⟩, .slice none 0 0] 27)).heap.size = w.heap.size + 1 := by simp
  have HR := Lib.hid (fac_eq S dp p n)
  have hq1 := skp_le S p
  have hq2 := skp_ge S hp
  generalize fac tv S dp p n = RES at *
  go_enter Tryz.func79, Tryz.ntmps79
  go_wp2_with fail
  refine (next_c h' hp hs).mono ?_
  rintro e w1 ⟨rfl, hr, hb⟩
  replace hb' := hb'.trans hb
  replace k_r := k_r.but hb (by omega)
  have hsz1 := hb.size
  clear hb h'
  generalize w.alloc (.cells #[.int .i64 0, .bool false, .slice none 0 0, .slice none 0 0, .string ⟨#[]⟩, .slice none 0 0] 27) = wa at *
  generalize skp S p = q at *
  have hlt := bt_some (S := S) (p := q)
  by_cases h45 : bt S q = 45
  · have hres : Hid (RES = signM S dp q n) := by show _ = _; rw [HR.out, if_pos h45]
    have hlt := hlt (by rw [h45]; decide)
    have i45 : ((bt S q).toNat : Int) = 45 := by rw [h45]; rfl
    rw [i45]
    clear HR h45 i45
    go_wp2_with fail
    refine (HS.out _ q n hr hlt (by omega)).mono ?_
    generalize hrr : signM S dp q n = rr at *
    have hres2 : Hid (RES = rr) := hres
    clear hres hrr
    cases rr with
    | err a c =>
      rintro e w2 ⟨rfl, hb⟩
      refine ⟨rfl, ?_⟩
      rw [hres2.out]
      exact ⟨rfl, hb'.trans hb⟩
    | ok t u p2 n2 lg =>
      rintro e w2 ⟨v, rfl, ht, hr2, hb⟩
      replace k_r := k_r.but hb (by omega)
      obtain ⟨s0, s1, s2, s3, s4, s5⟩ := k_r.facts
      obtain ⟨r0, r1, r2, r3, r4, r5⟩ := k_r.thaw
      go_wp2
      refine ret6 (fn := Tryz.f79) Tryz.results79 rfl rfl k_r ?_
      rw [hres2.out]
      exact Post.give (u := u) (lg := lg) hgl hw0 (by omega) ht hr2 (hb'.trans hb)
  · have n45 : (bt S q).toNat ≠ 45 := u8_ne (k := 45) (by omega) h45
    have i45 : ¬ (((bt S q).toNat : Int) = 45) := by omega
    have j45 : (((bt S q).toNat : Int) == 45) = false := beq_eq_false_iff_ne.2 i45
    by_cases h40 : bt S q = 40
    · have hres : Hid (RES = brackM S dp q n) := by show _ = _; rw [HR.out, if_neg h45, if_pos h40]
      have hlt := hlt (by rw [h40]; decide)
      have i40 : ((bt S q).toNat : Int) = 40 := by rw [h40]; rfl
      clear n45 i45 j45
      rw [i40]
      clear HR h45 h40 i40
      go_wp2_with fail
      refine (HB.out _ q n hr hlt (by omega)).mono ?_
      generalize hrr : brackM S dp q n = rr at *
      have hres2 : Hid (RES = rr) := hres
      clear hres hrr
      cases rr with
      | err a c =>
        rintro e w2 ⟨rfl, hb⟩
        refine ⟨rfl, ?_⟩
        rw [hres2.out]
        exact ⟨rfl, hb'.trans hb⟩
      | ok t u p2 n2 lg =>
        rintro e w2 ⟨v, rfl, ht, hr2, hb⟩
        replace k_r := k_r.but hb (by omega)
        obtain ⟨s0, s1, s2, s3, s4, s5⟩ := k_r.facts
        obtain ⟨r0, r1, r2, r3, r4, r5⟩ := k_r.thaw
        go_wp2
        refine ret6 (fn := Tryz.f79) Tryz.results79 rfl rfl k_r ?_
        rw [hres2.out]
        exact Post.give (u := u) (lg := lg) hgl hw0 (by omega) ht hr2 (hb'.trans hb)
    · have n40 : (bt S q).toNat ≠ 40 := u8_ne (k := 40) (by omega) h40
      have i40 : ¬ (((bt S q).toNat : Int) = 40) := by omega
      have j40 : (((bt S q).toNat : Int) == 40) = false := beq_eq_false_iff_ne.2 i40
      cases hdg : isDg (bt S q) with
      | true =>
        have hres : Hid (RES = numb tv S q n) := by show _ = _; rw [HR.out, if_neg h45, if_neg h40, if_pos hdg]
        have HDG := Lib.hid hdg
        clear HR h45 h40 n45 n40 hdg hlt
        go_wp2_with fail
        refine (isDigit_c (bt S q) _).mono ?_
        rintro e wd ⟨rfl, rfl⟩
        rw [HDG.out]
        go_wp2_with fail
        refine (numb_c hs hm _ q n hr HDG.out (by omega)).mono ?_
        generalize hrr : numb tv S q n = rr at *
        have hres2 : Hid (RES = rr) := hres
        clear hres hrr
        cases rr with
        | err a c =>
          rintro e w2 ⟨rfl, hb⟩
          refine ⟨rfl, ?_⟩
          rw [hres2.out]
          exact ⟨rfl, hb'.trans hb⟩
        | ok t u p2 n2 lg =>
          rintro e w2 ⟨v, rfl, ht, hr2, hb⟩
          replace k_r := k_r.but hb (by omega)
          obtain ⟨s0, s1, s2, s3, s4, s5⟩ := k_r.facts
          obtain ⟨r0, r1, r2, r3, r4, r5⟩ := k_r.thaw
          go_wp2
          refine ret6 (fn := Tryz.f79) Tryz.results79 rfl rfl k_r ?_
          rw [hres2.out]
          exact Post.give (u := u) (lg := lg) hgl hw0 (by omega) ht hr2 (hb'.trans hb)
      | false =>
        cases hlw : isLw (bt S q) with
        | true =>
          have hres : Hid (RES = name S q n) := by show _ = _; rw [HR.out, if_neg h45, if_neg h40, hdg, if_neg (by decide), if_pos hlw]
          have HDG := Lib.hid hdg
          have HLW := Lib.hid hlw
          have hlt := hlt (lw_pos hlw)
          clear HR h45 h40 n45 n40 hdg hlw
          go_wp2_with fail
          refine (isDigit_c (bt S q) _).mono ?_
          rintro e wd ⟨rfl, rfl⟩
          rw [HDG.out]
          go_wp2_with fail
          refine (isLetter_c (bt S q) _).mono ?_
          rintro e we ⟨rfl, rfl⟩
          rw [HLW.out]
          go_wp2_with fail
          refine (name_c hs _ q n hr (by omega) (by omega)).mono ?_
          generalize hrr : name S q n = rr at *
          have hres2 : Hid (RES = rr) := hres
          clear hres hrr
          cases rr with
          | err a c =>
            rintro e w2 ⟨rfl, hb⟩
            refine ⟨rfl, ?_⟩
            rw [hres2.out]
            exact ⟨rfl, hb'.trans hb⟩
          | ok t u p2 n2 lg =>
            rintro e w2 ⟨v, rfl, ht, hr2, hb⟩
            replace k_r := k_r.but hb (by omega)
            obtain ⟨s0, s1, s2, s3, s4, s5⟩ := k_r.facts
            obtain ⟨r0, r1, r2, r3, r4, r5⟩ := k_r.thaw
            go_wp2
            refine ret6 (fn := Tryz.f79) Tryz.results79 rfl rfl k_r ?_
            rw [hres2.out]
            exact Post.give (u := u) (lg := lg) hgl hw0 (by omega) ht hr2 (hb'.trans hb)
        | false =>
          have hres : Hid (RES = .err q 2) := by show _ = _; rw [HR.out, if_neg h45, if_neg h40, hdg, if_neg (by decide), hlw, if_neg (by decide)]
          have HDG := Lib.hid hdg
          have HLW := Lib.hid hlw
          clear HR h45 h40 n45 n40 hdg hlw hlt
          go_wp2_with fail
          refine (isDigit_c (bt S q) _).mono ?_
          rintro e wd ⟨rfl, rfl⟩
          rw [HDG.out]
          go_wp2_with fail
          refine (isLetter_c (bt S q) _).mono ?_
          rintro e we ⟨rfl, rfl⟩
          rw [HLW.out]
          go_wp2_with fail
          refine (fail_c 2 hr).mono ?_
          rintro e w2 ⟨rfl, rfl⟩
          refine ⟨rfl, ?_⟩
          rw [hres.out]
          exact ⟨rfl, hb'⟩

set_option maxHeartbeats 1600000 in
theorem product_c {w0 : World} {g d : Nat} {S : ByteArray} {m : Nat → Nat → PR} (HP : Hid (Part w0 g S 79 d m)) (HG : Hid (∀ p n, p ≤ S.size → Good S p n (m p n))) (hs : S.size ≤ 100000) : Part w0 g S 53 d (rowS S m kPro) := by
  intro w p n h hp hn
  have hgl := h.lt
  have hw0 := h.below.size
  have h' := h.alloc (.cells #[.int .i64 0, .bool false, .slice none 0 0, .slice none 0 0, .string ⟨#[]⟩, .slice none 0 0] 27)
  have hb' := (But.refl g w).alloc (.cells #[.int .i64 0, .bool false, .slice none 0 0, .slice none 0 0, .string ⟨#[]⟩, .slice none 0 0] 27)
  have k_r := C6.new w (.int .i64 0) (.bool false) (.slice none 0 0) (.slice none 0 0) (.string ⟨#[]⟩) (.slice none 0 0)
  have hsz : (w.alloc (.cells #[.int .i64 0, .bool false, .slice none 0 0, .slice none 0 0, .string ⟨#[]⟩, .slice none 0 0] 27)).heap.size = w.heap.size + 1 := by simp
  go_enter Tryz.func53, Tryz.ntmps53
  go_wp2_with fail
  refine (rowP_c HP HG hs _ p n h' hp hn).mono ?_
  obtain ⟨rr, hrr⟩ : ∃ rr, Hid (rowS S m kPro p n = rr) := ⟨_, rfl⟩
  rw [hrr.out]
  generalize w.alloc (.cells #[.int .i64 0, .bool false, .slice none 0 0, .slice none 0 0, .string ⟨#[]⟩, .slice none 0 0] 27) = wa at *
  cases rr with
  | err a c =>
    rintro e w2 ⟨rfl, hb⟩
    refine ⟨rfl, ?_⟩
    first | rw [hrr.out] | skip
    exact ⟨rfl, hb'.trans hb⟩
  | ok t u p2 n2 lg =>
    rintro e w2 ⟨v, rfl, ht, hr2, hb⟩
    replace k_r := k_r.but hb (by omega)
    obtain ⟨s0, s1, s2, s3, s4, s5⟩ := k_r.facts
    obtain ⟨r0, r1, r2, r3, r4, r5⟩ := k_r.thaw
    go_wp2
    refine ret6 (fn := Tryz.f53) Tryz.results53 rfl rfl k_r ?_
    first | rw [hrr.out] | skip
    exact Post.give (u := u) (lg := lg) hgl hw0 (by omega) ht hr2 (hb'.trans hb)

set_option maxHeartbeats 1600000 in
theorem sum_c {w0 : World} {g d : Nat} {S : ByteArray} {m : Nat → Nat → PR} (HP : Hid (Part w0 g S 53 d m)) (HG : Hid (∀ p n, p ≤ S.size → Good S p n (m p n))) (hs : S.size ≤ 100000) : Part w0 g S 31 d (rowS S m kSum) := by
  intro w p n h hp hn
  have hgl := h.lt
  have hw0 := h.below.size
  have h' := h.alloc (.cells #[.int .i64 0, .bool false, .slice none 0 0, .slice none 0 0, .string ⟨#[]⟩, .slice none 0 0] 27)
  have hb' := (But.refl g w).alloc (.cells #[.int .i64 0, .bool false, .slice none 0 0, .slice none 0 0, .string ⟨#[]⟩, .slice none 0 0] 27)
  have k_r := C6.new w (.int .i64 0) (.bool false) (.slice none 0 0) (.slice none 0 0) (.string ⟨#[]⟩) (.slice none 0 0)
  have hsz : (w.alloc (.cells #[.int .i64 0, .bool false, .slice none 0 0, .slice none 0 0, .string ⟨#[]⟩, .slice none 0 0] 27)).heap.size = w.heap.size + 1 := by simp
  go_enter Tryz.func31, Tryz.ntmps31
  go_wp2_with fail
  refine (rowS_c HP HG hs _ p n h' hp hn).mono ?_
  obtain ⟨rr, hrr⟩ : ∃ rr, Hid (rowS S m kSum p n = rr) := ⟨_, rfl⟩
  rw [hrr.out]
  generalize w.alloc (.cells #[.int .i64 0, .bool false, .slice none 0 0, .slice none 0 0, .string ⟨#[]⟩, .slice none 0 0] 27) = wa at *
  cases rr with
  | err a c =>
    rintro e w2 ⟨rfl, hb⟩
    refine ⟨rfl, ?_⟩
    first | rw [hrr.out] | skip
    exact ⟨rfl, hb'.trans hb⟩
  | ok t u p2 n2 lg =>
    rintro e w2 ⟨v, rfl, ht, hr2, hb⟩
    replace k_r := k_r.but hb (by omega)
    obtain ⟨s0, s1, s2, s3, s4, s5⟩ := k_r.facts
    obtain ⟨r0, r1, r2, r3, r4, r5⟩ := k_r.thaw
    go_wp2
    refine ret6 (fn := Tryz.f31) Tryz.results31 rfl rfl k_r ?_
    first | rw [hrr.out] | skip
    exact Post.give (u := u) (lg := lg) hgl hw0 (by omega) ht hr2 (hb'.trans hb)

/-- Factors and sums, so deep. -/
theorem lev_c {w0 : World} {g : Nat} {S : ByteArray} (hs : S.size ≤ 100000) (hm : Mx w0) : ∀ k, k ≤ 31 →
    Part w0 g S 79 (31 - k) (lev tv S k).1 ∧ Part w0 g S 31 (31 - k) (lev tv S k).2 := by
  intro k
  induction k with
  | zero =>
    intro _
    have hf : Part w0 g S 79 31 (fac tv S none) :=
      factor_c hs hm (Lib.hid fun w p n h _ _ => signed_deep w p n h) (Lib.hid fun w p n h _ _ => bracketed_deep w p n h)
    have hg : ∀ p n, p ≤ S.size → Good S p n (fac tv S none p n) := fun p n hp => (lev_good tv S 0).1 p n hp
    exact ⟨hf, sum_c (Lib.hid (product_c (Lib.hid hf) (Lib.hid hg) hs)) (Lib.hid fun p n hp => rowS_good (by decide) hg p n hp) hs⟩
  | succ k ih =>
    intro hk
    obtain ⟨i1, i2⟩ := ih (by omega)
    obtain ⟨g1, g2⟩ := lev_good tv S k
    have e : 31 - k = (31 - (k + 1)) + 1 := by omega
    rw [e] at i1 i2
    have hf : Part w0 g S 79 (31 - (k + 1)) (fac tv S (some ((lev tv S k).1, (lev tv S k).2))) :=
      factor_c hs hm (Lib.hid fun w p n h hp hn => signed_c (Lib.hid i1) (Lib.hid g1) hs (by omega) w p n h hp hn) (Lib.hid fun w p n h hp hn => bracketed_c (Lib.hid i2) (Lib.hid g2) hs (by omega) w p n h hp hn)
    have hg : ∀ p n, p ≤ S.size → Good S p n (fac tv S (some (lev tv S k)) p n) := fun p n hp => (lev_good tv S (k + 1)).1 p n hp
    exact ⟨hf, sum_c (Lib.hid (product_c (Lib.hid hf) (Lib.hid hg) hs)) (Lib.hid fun p n hp => rowS_good (by decide) hg p n hp) hs⟩
end Go.Proofs.YtcmkgoikmleanaaGreatDoor

namespace Go.Proofs.YtcmkgoikmleanaaGreatDoor
set_option maxRecDepth 20000
open Go.RowKit

/-- A tree in new memory, or an error that goes up. -/
def Read (w : World) : PR → Ending → World → Prop
  | .err a c, e, w' => e = flt a c ∧ Below w.heap.size w w'
  | .ok t _ _ _ _, e, w' => ∃ v : Ev, e = .returned (.agg #[.int .i64 v.k, .bool v.r.s, .slice v.r.A v.r.n v.r.c, .slice v.r.B v.r.m v.r.d, .string v.s, .slice v.K v.n v.c]) ∧ Tw w' (fun b => w.heap.size ≤ b) t v ∧ Below w.heap.size w w'

set_option maxHeartbeats 4000000 in
theorem readAll_c (S : ByteArray) (w : World) (hs : S.size ≤ 100000) (hm : Mx w) :
    Calls Tryz.prog 18 #[.string S] w (Read w (parse tv S)) := by
  have HR : Hid (parse tv S = ((lev tv S 31).2 0 0).then fun t u p n lg => if p < S.size then .err p 2 else .ok t u p n lg) := rfl
  have HGp := (lev_good tv S 31).2 0 0 (Nat.zero_le _)
  generalize parse tv S = RES at *
  have k_r := C6.new w (.int .i64 0) (.bool false) (.slice none 0 0) (.slice none 0 0) (.string ⟨#[]⟩) (.slice none 0 0)
  have hz : (w.alloc (.cells #[.int .i64 0, .bool false, .slice none 0 0, .slice none 0 0, .string ⟨#[]⟩, .slice none 0 0] 27)).heap.size = w.heap.size + 1 := by simp
  have hr : Rdr w (w.heap.size + 1) S ((w.alloc (.cells #[.int .i64 0, .bool false, .slice none 0 0, .slice none 0 0, .string ⟨#[]⟩, .slice none 0 0] 27)).alloc (.cells #[.string S, .int .i64 0, .int .i64 0, .int .i64 0] 66)) 0 0 0 :=
    ⟨by omega, ((Below.refl _ _).alloc (Nat.le_refl _) _).alloc (by omega) _, by rw [← hz]; exact heap_alloc_new _ _⟩
  replace k_r := k_r.alloc (.cells #[.string S, .int .i64 0, .int .i64 0, .int .i64 0] 66)
  have hb := ((But.refl (w.heap.size + 1) w).alloc (.cells #[.int .i64 0, .bool false, .slice none 0 0, .slice none 0 0, .string ⟨#[]⟩, .slice none 0 0] 27)).alloc (.cells #[.string S, .int .i64 0, .int .i64 0, .int .i64 0] 66)
  have hz2 : ((w.alloc (.cells #[.int .i64 0, .bool false, .slice none 0 0, .slice none 0 0, .string ⟨#[]⟩, .slice none 0 0] 27)).alloc (.cells #[.string S, .int .i64 0, .int .i64 0, .int .i64 0] 66)).heap.size = w.heap.size + 2 := by simp
  go_enter Tryz.func18, Tryz.ntmps18
  go_wp2_with fail
  refine ((lev_c hs hm 31 (Nat.le_refl _)).2 _ 0 0 hr (Nat.zero_le _) (Nat.le_refl _)).mono ?_
  generalize (w.alloc (.cells #[.int .i64 0, .bool false, .slice none 0 0, .slice none 0 0, .string ⟨#[]⟩, .slice none 0 0] 27)).alloc (.cells #[.string S, .int .i64 0, .int .i64 0, .int .i64 0] 66) = wa at *
  generalize (lev tv S 31).2 0 0 = r0 at *
  cases r0 with
  | err a c =>
    rintro e w1 ⟨rfl, hb1⟩
    refine ⟨rfl, ?_⟩
    rw [HR.out]
    exact ⟨rfl, (hb.trans hb1).new (by omega)⟩
  | ok t u p n lg =>
    rintro e w1 ⟨v, rfl, ht, hr1, hb1⟩
    have hp := HGp.le
    have HR2 : Hid (RES = if p < S.size then .err p 2 else .ok t u p n lg) := HR
    replace hb := hb.trans hb1
    replace k_r := k_r.but hb1 (by omega)
    have hz1 := hb1.size
    replace ht := ht.lt.wide (Q := fun b => w.heap.size + 2 ≤ b ∧ b ≠ w1.heap.size) (fun b ⟨h1, h2⟩ => ⟨by omega, by omega⟩)
    clear hb1 hr HR HGp
    have k_e := C6.new w1 (.int .i64 v.k) (.bool v.r.s) (.slice v.r.A v.r.n v.r.c) (.slice v.r.B v.r.m v.r.d) (.string v.s) (.slice v.K v.n v.c)
    replace k_r := k_r.alloc (.cells #[.int .i64 v.k, .bool v.r.s, .slice v.r.A v.r.n v.r.c, .slice v.r.B v.r.m v.r.d, .string v.s, .slice v.K v.n v.c] 27)
    replace hr1 := hr1.alloc (.cells #[.int .i64 v.k, .bool v.r.s, .slice v.r.A v.r.n v.r.c, .slice v.r.B v.r.m v.r.d, .string v.s, .slice v.K v.n v.c] 27)
    replace hb := hb.alloc (.cells #[.int .i64 v.k, .bool v.r.s, .slice v.r.A v.r.n v.r.c, .slice v.r.B v.r.m v.r.d, .string v.s, .slice v.K v.n v.c] 27)
    replace ht := ht.alloc (.cells #[.int .i64 v.k, .bool v.r.s, .slice v.r.A v.r.n v.r.c, .slice v.r.B v.r.m v.r.d, .string v.s, .slice v.K v.n v.c] 27)
    obtain ⟨h0, h1, h2, h3, f1, f2, f3⟩ := hr1.facts
    by_cases hlt : p < S.size
    · have hres : Hid (RES = .err p 2) := by show _ = _; rw [HR2.out, if_pos hlt]
      have i1 : (p : Int) < (S.size : Int) := by omega
      clear HR2 hlt
      go_wp2_with fail
      refine (fail_c 2 hr1).mono ?_
      rintro e w4 ⟨rfl, rfl⟩
      refine ⟨rfl, ?_⟩
      rw [hres.out]
      exact ⟨rfl, hb.new (by omega)⟩
    · have hres : Hid (RES = .ok t u p n lg) := by show _ = _; rw [HR2.out, if_neg hlt]
      have i1 : ¬ (p : Int) < (S.size : Int) := by omega
      clear HR2 hlt
      obtain ⟨e0, e1, e2, e3, e4, e5⟩ := k_e.facts
      obtain ⟨s0, s1, s2, s3, s4, s5⟩ := k_r.facts
      obtain ⟨r0, r1, r2, r3, r4, r5⟩ := k_r.thaw
      go_wp2
      refine ret6 (fn := Tryz.f18) Tryz.results18 rfl rfl k_r ?_
      rw [hres.out]
      exact ⟨v, rfl, (ht.but (put6_but _ _ _ _ _ _) (fun b ⟨h1, _⟩ => by omega)).wide (fun b ⟨h1, _⟩ => by omega), (hb.put (Nat.le_refl _) _ _ _ _ _ _).new (by omega)⟩
end Go.Proofs.YtcmkgoikmleanaaGreatDoor
