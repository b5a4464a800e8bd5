/-
  Histories: whether two are one; the document's own; how long they are.
-/
import Derived.Test.YtaifgehmlfjljaaHsC
import Derived.Test.YtaifgehmlfjljaaHsD
namespace Go.Proofs.Ytaifgehmlfjljaa
set_option maxRecDepth 20000
open Go.RowKit

set_option maxHeartbeats 3200000 in
theorem Equal_c (A B : Option Addr) (n ca cb : Nat) (l : List ByteArray) (w : World) (h : Strs w A n l) (g : Strs w B n l) (hn : n ≤ 2000000) :
    Calls Try.prog 36 #[.slice A n ca, .slice B n cb] w fun e w' => e = .returned (.bool true) ∧ Below w.heap.size w w' := by
  have n0 : (0 : Int) ≤ (n : Int) := by omega
  have H := Lib.hid (And.intro h g)
  have hl := Lib.hid h.len
  clear h g
  have HR0 := Lib.hid (Below.refl w.heap.size w)
  go_enter Try.func36, Try.ntmps36
  go_wp2
  go_loopw [5, 13] (fun _ iv wr => ∃ i : Nat, i ≤ n ∧ iv = .int .i64 i ∧ Hid (Below w.heap.size w wr)) (fun _ iv _ => n - (intOf iv).toNat)
  case atStart => exact ⟨0, Nat.zero_le _, rfl, HR0⟩
  case round =>
    clear HR0
    obtain ⟨i, hi, rfl, HR⟩ := hrel
    have i0 : (0 : Int) ≤ (i : Int) := by omega
    by_cases hlt : i < n
    · have i1 : (i : Int) < (n : Int) := by omega
      obtain ⟨ba, oa, ea, _, ha⟩ := (H.out.1.below HR.out).mem (by omega)
      obtain ⟨bb, ob, eb, _, hb⟩ := (H.out.2.below HR.out).mem (by omega)
      obtain ⟨x, hx⟩ : ∃ x, l[i]? = some x := ⟨_, List.getElem?_eq_getElem (by rw [hl.out]; omega)⟩
      have c0 := ha i x hx
      have c1 := hb i x hx
      clear ha hb hx
      rw [ea, eb]
      clear ea eb
      go_wp2
      go_region_held3 (fun w' => w'.cell? ⟨ba, oa + i, none⟩ = some (.string x) ∧ w'.cell? ⟨bb, ob + i, none⟩ = some (.string x)) (go_keep) (fail)
      have HS1 := Lib.hid HR.out.drew
      go_wp2
      go_roundw
      case rel => exact ⟨i + 1, by omega, by go_num, HS1⟩
      case measure => simp [intOf]; omega
    · have i1 : ¬ (i : Int) < (n : Int) := by omega
      go_wp2
      go_ret
      exact ⟨rfl, HR.out⟩
set_option maxHeartbeats 3200000 in
theorem texts_c (A B : Option Addr) (n ca cb : Nat) (l : List ByteArray) (w : World) (h : Strs w A n l) (g : Strs w B n l) (hn : n ≤ 2000000) :
    Calls Try.prog 45 #[.slice A n ca, .slice B n cb] w fun e w' => e = .returned (.bool true) ∧ Below w.heap.size w w' := by
  have n0 : (0 : Int) ≤ (n : Int) := by omega
  have H := Lib.hid (And.intro h g)
  have hl := Lib.hid h.len
  clear h g
  have HR0 := Lib.hid (Below.refl w.heap.size w)
  go_enter Try.func45, Try.ntmps45
  go_wp2
  go_loopw [5] (fun iv wr => ∃ i : Nat, i ≤ n ∧ iv = .int .i64 i ∧ Hid (Below w.heap.size w wr)) (fun iv _ => n - (intOf iv).toNat)
  case atStart => exact ⟨0, Nat.zero_le _, rfl, HR0⟩
  case round =>
    clear HR0
    obtain ⟨i, hi, rfl, HR⟩ := hrel
    have i0 : (0 : Int) ≤ (i : Int) := by omega
    by_cases hlt : i < n
    · have i1 : (i : Int) < (n : Int) := by omega
      obtain ⟨ba, oa, ea, _, ha⟩ := (H.out.1.below HR.out).mem (by omega)
      obtain ⟨bb, ob, eb, _, hb⟩ := (H.out.2.below HR.out).mem (by omega)
      obtain ⟨x, hx⟩ : ∃ x, l[i]? = some x := ⟨_, List.getElem?_eq_getElem (by rw [hl.out]; omega)⟩
      have c0 := ha i x hx
      have c1 := hb i x hx
      clear ha hb hx
      rw [ea, eb]
      clear ea eb
      go_wp2
      go_region_held3 (fun w' => w'.cell? ⟨ba, oa + i, none⟩ = some (.string x) ∧ w'.cell? ⟨bb, ob + i, none⟩ = some (.string x)) (go_keep) (fail)
      have HS1 := Lib.hid HR.out.drew
      go_wp2
      go_roundw
      case rel => exact ⟨i + 1, by omega, by go_num, HS1⟩
      case measure => simp [intOf]; omega
    · have i1 : ¬ (i : Int) < (n : Int) := by omega
      go_wp2
      go_ret
      exact ⟨rfl, HR.out⟩
set_option maxHeartbeats 3200000 in
theorem Same_c (A B A' B' : Option Addr) (n c m d c' d' : Nat) (l k : List ByteArray) (w : World) (h : Strs w A n l) (h1 : Strs w B m k) (h2 : Strs w A' n l) (h3 : Strs w B' m k) (hn : n ≤ 2000000) (hm : m ≤ 2000000) :
    Calls Try.prog 17 #[.agg #[.slice A n c, .slice B m d], .agg #[.slice A' n c', .slice B' m d']] w fun e w' => e = .returned (.bool true) ∧ Below w.heap.size w w' := by
  have HB : Hid (Below w.heap.size w ((w.alloc (.cells #[.slice A n c, .slice B m d] 24)).alloc (.cells #[.slice A' n c', .slice B' m d'] 24))) := ((Below.refl _ _).alloc (Nat.le_refl _) _).alloc (by simp) _
  have H0 : Hid (Strs w A n l ∧ Strs w B m k ∧ Strs w A' n l ∧ Strs w B' m k) := ⟨h, h1, h2, h3⟩
  have k0 : C2 ((w.alloc (.cells #[.slice A n c, .slice B m d] 24)).alloc (.cells #[.slice A' n c', .slice B' m d'] 24)) w.heap.size 24 (.slice A n c) (.slice B m d) := (C2.newAt _ _ _ rfl).below (below_alloc _ _)
  have k1 : C2 ((w.alloc (.cells #[.slice A n c, .slice B m d] 24)).alloc (.cells #[.slice A' n c', .slice B' m d'] 24)) (w.heap.size + 1) 24 (.slice A' n c') (.slice B' m d') := C2.newAt _ _ _ (by simp)
  have hsz : ((w.alloc (.cells #[.slice A n c, .slice B m d] 24)).alloc (.cells #[.slice A' n c', .slice B' m d'] 24)).heap.size = w.heap.size + 2 := by simp
  have HK := Lib.hid (And.intro k0 (And.intro k1 hsz))
  clear h h1 h2 h3 k0 k1 hsz
  go_enter Try.func17, Try.ntmps17
  go_wp2_with fail
  generalize ((w.alloc (.cells #[.slice A n c, .slice B m d] 24)).alloc (.cells #[.slice A' n c', .slice B' m d'] 24)) = W at *
  refine (Equal_c A A' n c c' l _ (H0.out.1.below HB.out) (H0.out.2.2.1.below HB.out) hn).mono ?_
  rintro e w1 ⟨rfl, hb⟩
  have hbW := HB.out.trans (hb.mono HB.out.size)
  have H1 := Lib.hid hbW
  obtain ⟨a0, a1⟩ := (HK.out.1.below hb).facts
  obtain ⟨b0, b1⟩ := (HK.out.2.1.below hb).facts
  clear hb hbW HK
  go_wp2_with fail
  refine (Equal_c B B' m d d' k _ (H0.out.2.1.below H1.out) (H0.out.2.2.2.below H1.out) hm).mono ?_
  rintro e w2 ⟨rfl, hb⟩
  have H2 := Lib.hid (H1.out.trans (hb.mono H1.out.size))
  clear hb
  go_wp2
  go_ret
  exact ⟨rfl, H2.out⟩
set_option maxHeartbeats 3200000 in
theorem rSame_c (A B A' B' : Option Addr) (n c m d c' d' : Nat) (l k : List ByteArray) (w : World) (h : Strs w A n l) (h1 : Strs w B m k) (h2 : Strs w A' n l) (h3 : Strs w B' m k) (hn : n ≤ 2000000) (hm : m ≤ 2000000) :
    Calls Try.prog 35 #[.agg #[.slice A n c, .slice B m d], .agg #[.slice A' n c', .slice B' m d']] w fun e w' => e = .returned (.bool true) ∧ Below w.heap.size w w' := by
  have HB : Hid (Below w.heap.size w ((w.alloc (.cells #[.slice A n c, .slice B m d] 30)).alloc (.cells #[.slice A' n c', .slice B' m d'] 30))) := ((Below.refl _ _).alloc (Nat.le_refl _) _).alloc (by simp) _
  have H0 : Hid (Strs w A n l ∧ Strs w B m k ∧ Strs w A' n l ∧ Strs w B' m k) := ⟨h, h1, h2, h3⟩
  have k0 : C2 ((w.alloc (.cells #[.slice A n c, .slice B m d] 30)).alloc (.cells #[.slice A' n c', .slice B' m d'] 30)) w.heap.size 30 (.slice A n c) (.slice B m d) := (C2.newAt _ _ _ rfl).below (below_alloc _ _)
  have k1 : C2 ((w.alloc (.cells #[.slice A n c, .slice B m d] 30)).alloc (.cells #[.slice A' n c', .slice B' m d'] 30)) (w.heap.size + 1) 30 (.slice A' n c') (.slice B' m d') := C2.newAt _ _ _ (by simp)
  have hsz : ((w.alloc (.cells #[.slice A n c, .slice B m d] 30)).alloc (.cells #[.slice A' n c', .slice B' m d'] 30)).heap.size = w.heap.size + 2 := by simp
  have HK := Lib.hid (And.intro k0 (And.intro k1 hsz))
  clear h h1 h2 h3 k0 k1 hsz
  go_enter Try.func35, Try.ntmps35
  go_wp2_with fail
  generalize ((w.alloc (.cells #[.slice A n c, .slice B m d] 30)).alloc (.cells #[.slice A' n c', .slice B' m d'] 30)) = W at *
  refine (texts_c A A' n c c' l _ (H0.out.1.below HB.out) (H0.out.2.2.1.below HB.out) hn).mono ?_
  rintro e w1 ⟨rfl, hb⟩
  have hbW := HB.out.trans (hb.mono HB.out.size)
  have H1 := Lib.hid hbW
  obtain ⟨a0, a1⟩ := (HK.out.1.below hb).facts
  obtain ⟨b0, b1⟩ := (HK.out.2.1.below hb).facts
  clear hb hbW HK
  go_wp2_with fail
  refine (texts_c B B' m d d' k _ (H0.out.2.1.below H1.out) (H0.out.2.2.2.below H1.out) hm).mono ?_
  rintro e w2 ⟨rfl, hb⟩
  have H2 := Lib.hid (H1.out.trans (hb.mono H1.out.size))
  clear hb
  go_wp2
  go_ret
  exact ⟨rfl, H2.out⟩
set_option maxHeartbeats 3200000 in
theorem same_c (A B A' B' : Option Addr) (n c m d c' d' : Nat) (l k : List ByteArray) (w : World) (h : Strs w A n l) (h1 : Strs w B m k) (h2 : Strs w A' n l) (h3 : Strs w B' m k) (hn : n ≤ 2000000) (hm : m ≤ 2000000) :
    Calls Try.prog 14 #[.agg #[.slice A n c, .slice B m d], .agg #[.slice A' n c', .slice B' m d']] w fun e w' => e = .returned (.bool true) ∧ Below w.heap.size w w' := by
  have HB : Hid (Below w.heap.size w ((w.alloc (.cells #[.slice A n c, .slice B m d] 24)).alloc (.cells #[.slice A' n c', .slice B' m d'] 30))) := ((Below.refl _ _).alloc (Nat.le_refl _) _).alloc (by simp) _
  have H0 : Hid (Strs w A n l ∧ Strs w B m k ∧ Strs w A' n l ∧ Strs w B' m k) := ⟨h, h1, h2, h3⟩
  have k0 : C2 ((w.alloc (.cells #[.slice A n c, .slice B m d] 24)).alloc (.cells #[.slice A' n c', .slice B' m d'] 30)) w.heap.size 24 (.slice A n c) (.slice B m d) := (C2.newAt _ _ _ rfl).below (below_alloc _ _)
  have k1 : C2 ((w.alloc (.cells #[.slice A n c, .slice B m d] 24)).alloc (.cells #[.slice A' n c', .slice B' m d'] 30)) (w.heap.size + 1) 30 (.slice A' n c') (.slice B' m d') := C2.newAt _ _ _ (by simp)
  have hsz : ((w.alloc (.cells #[.slice A n c, .slice B m d] 24)).alloc (.cells #[.slice A' n c', .slice B' m d'] 30)).heap.size = w.heap.size + 2 := by simp
  have HK := Lib.hid (And.intro k0 (And.intro k1 hsz))
  clear h h1 h2 h3 k0 k1 hsz
  go_enter Try.func14, Try.ntmps14
  go_wp2_with fail
  generalize ((w.alloc (.cells #[.slice A n c, .slice B m d] 24)).alloc (.cells #[.slice A' n c', .slice B' m d'] 30)) = W at *
  refine (rSame_c A B A' B' n c m d c' d' l k _ (H0.out.1.below HB.out) (H0.out.2.1.below HB.out) (H0.out.2.2.1.below HB.out) (H0.out.2.2.2.below HB.out) hn hm).mono ?_
  rintro e w1 ⟨rfl, hb⟩
  have H2 := Lib.hid (HB.out.trans (hb.mono HB.out.size))
  clear hb HK
  go_wp2
  go_ret
  exact ⟨rfl, H2.out⟩
set_option maxHeartbeats 3200000 in
theorem rwith_c (A : Option Addr) (n c : Nat) (l : List ByteArray) (s : ByteArray) (w : World) (h : Strs w A n l) (hn : n ≤ 2000000) (hs : s.size ≤ 2000000) :
    Calls Try.prog 37 #[.slice A n c, .string s] w fun e w' => ∃ A2 c2, e = .returned (.slice A2 (n + 1) c2) ∧ OwnS w' w.heap.size A2 c2 (n + 1) (l ++ [s]) ∧ Below w.heap.size w w' := by
  have HS := Lib.hid (And.intro hs h)
  clear h
  go_enter Try.func37, Try.ntmps37
  go_wp2_with (at_builtin; refine wps_appends rfl _ _ rfl rfl rfl (l := []) (n := 0) (lo := w.heap.size) ⟨World.ownsRow_made w #[] 0 (Nat.le_refl _) (Nat.zero_le _) rfl⟩ (HS.out.2.below (below_alloc _ _)) (by omega) (by simp) ?_)
  intro A2 c2 w1 hown hgrow
  have H1 : Hid (OwnS w1 w.heap.size A2 c2 n l ∧ Below w.heap.size w w1) := ⟨by simpa using hown, ((Below.refl _ w).alloc (Nat.le_refl _) _).grown hgrow (by simp) (by intro k hk; simp at hk; omega)⟩
  have hsz := H1.out.2.size
  clear hown hgrow
  go_wp2_with (at_builtin; refine wps_appends rfl _ _ rfl rfl rfl (H1.out.1.below (below_alloc _ _)) (Strs.one s HS.out.1) (by omega) (by simp; omega) ?_)
  intro A3 c3 w3 hown hgrow
  have HO : Hid (OwnS w3 w.heap.size A3 c3 (n + 1) (l ++ [s]) ∧ Below w.heap.size w w3) := ⟨hown, (H1.out.2.alloc hsz _).grown hgrow (by simp; omega) (by
    intro k hk
    have h9 := H1.out.1.lt'
    cases A2 with
    | none => cases hk
    | some ad => simp at hk; have := (h9 ad rfl).1; omega)⟩
  clear hown hgrow
  go_wp2
  go_ret
  exact ⟨A3, c3, rfl, HO.out.1, HO.out.2⟩
set_option maxHeartbeats 3200000 in
theorem rPush_c (A B : Option Addr) (n c m d : Nat) (l : List ByteArray) (s : ByteArray) (w : World) (h : Strs w A n l) (hn : n ≤ 1500000) (hs : s.size ≤ 2000000) :
    Calls Try.prog 18 #[.agg #[.slice A n c, .slice B m d], .string s] w fun e w' => ∃ A2 c2, e = .returned (.agg #[.slice A2 (n - gone n + 1) c2, .slice none 0 0]) ∧ Strs w' A2 (n - gone n + 1) (l.drop (gone n) ++ [s]) ∧ Below w.heap.size w w' := by
  have HZ : Hid (∀ x ∈ l ++ [s], x.size ≤ 2000000) := fun x hx => by
    rcases List.mem_append.1 hx with hx | hx
    · exact h.sz x hx
    · simp at hx; subst hx; exact hs
  have HH := Lib.hid (And.intro h hs)
  have HL := Lib.hid h.len
  have n0 : (0 : Int) ≤ (n : Int) := by omega
  have hb0 : Below w.heap.size w ((w.alloc (.cells #[.slice A n c, .slice B m d] 30)).alloc (.cells #[.slice none 0 0, .slice none 0 0] 30)) := ((Below.refl _ _).alloc (Nat.le_refl _) _).alloc (by simp) _
  have k2 : C2 ((w.alloc (.cells #[.slice A n c, .slice B m d] 30)).alloc (.cells #[.slice none 0 0, .slice none 0 0] 30)) (w.heap.size + 1) 30 (.slice none 0 0) (.slice none 0 0) := C2.newAt _ _ _ (by simp)
  have hsz : ((w.alloc (.cells #[.slice A n c, .slice B m d] 30)).alloc (.cells #[.slice none 0 0, .slice none 0 0] 30)).heap.size = w.heap.size + 2 := by simp
  have HB := Lib.hid (And.intro hb0 (And.intro k2 hsz))
  clear hb0 k2 hsz h
  go_enter Try.func18, Try.ntmps18
  go_wp2_with fail
  refine (rwith_c A n c l s _ (HH.out.1.below HB.out.1) (by omega) HH.out.2).mono ?_
  rintro e w1 ⟨A2, c2, rfl, ho, hb⟩
  have H1 : Hid (OwnS w1 w.heap.size A2 c2 (n + 1) (l ++ [s]) ∧ Below w.heap.size w w1 ∧ C2 w1 (w.heap.size + 1) 30 (.slice none 0 0) (.slice none 0 0)) := ⟨ho.lower (by have := HB.out.2.2; omega), HB.out.1.trans (hb.mono (by have := HB.out.2.2; omega)), HB.out.2.1.below hb⟩
  obtain ⟨b, rfl, hb1, hb2⟩ := H1.out.1.form (Nat.succ_pos _)
  have hcap := H1.out.1.capLe
  have HST : Hid (Strs w1 (some ⟨b, 0, none⟩) (n + 1) (l ++ [s])) := H1.out.1.strs HZ.out
  clear ho hb
  go_wp2
  go_loopw [5] (fun sv wr => wr = w1 ∧ ∃ i : Nat, i ≤ gone n ∧ sv = .slice (some ⟨b, i, none⟩) (n + 1 - i) (c2 - i)) (fun sv _ => match sv with | .slice _ k _ => k | _ => 0)
  case atStart => exact ⟨rfl, 0, Nat.zero_le _, rfl⟩
  case round =>
    obtain ⟨rfl, i, hi, rfl⟩ := hrel
    have hg : gone n = n + 1 - 32 := rfl
    have HG := Lib.hid hg
    by_cases hlt : i < gone n
    · have i1 : (32 : Int) < ((n + 1 - i : Nat) : Int) := by omega
      have i2 : ¬ c2 - i = 1 := by omega
      have i3 : (1 : Int) ≤ ((n + 1 - i : Nat) : Int) := by omega
      have i4 : 1 ≤ n + 1 - i := by omega
      clear hg
      go_wp2
      go_roundw
      case rel => exact ⟨by first | exact rfl | trivial, i + 1, by omega, by first | (simp; omega) | (congr 1 <;> omega)⟩
      case measure => simp; omega
    · have i1 : ¬ (32 : Int) < ((n + 1 - i : Nat) : Int) := by omega
      have e : i = gone n := by omega
      have HI : Hid (i = gone n ∧ n + 1 - i = n - gone n + 1 ∧ i ≤ n) := ⟨e, by omega, by omega⟩
      clear hg e
      have k2 := H1.out.2.2
      obtain ⟨f0, f1⟩ := k2.facts
      have f2 := k2.thaw 0
      have f3 := k2.thaw 1
      have hl := k2.lt
      clear k2
      go_wp2
      refine ret2r (fn := Try.f18) Try.results18 rfl rfl (H1.out.2.2.put _ _) ?_
      have hb3 : b ≠ w.heap.size + 1 := fun e => by
        have h5 := H1.out.2.2
        rcases H1.out.1.own.2 with ⟨hv, _⟩ | ⟨g, cap, cur, hv, _, hh, _⟩
        · cases hv
        · injection hv with e3; injection e3 with e3; injection e3 with e3
          unfold C2 at h5
          rw [← e, e3, hh] at h5
          injection h5 with h5; injection h5 with _ h6; revert h6; decide
      have hs9 := (HST.out.drop (k := i) (by have := HI.out.2.2; omega))
      rw [Nat.zero_add, HI.out.2.1, List.drop_append_of_le_length (by have := HL.out; have := HI.out.2.2; omega), congrArg (fun q => l.drop q) HI.out.1] at hs9
      have hne : ∀ ad : Addr, some (⟨b, i, none⟩ : Addr) = some ad → ad.block ≠ w.heap.size + 1 := fun ad e => by injection e with e; subst e; exact hb3
      exact ⟨some ⟨b, i, none⟩, ⟨c2 - i, by rw [← HI.out.2.1]⟩, (hs9.other _ hne).other _ hne, H1.out.2.1.trans (put2_below (by omega))⟩
end Go.Proofs.Ytaifgehmlfjljaa
