/-
  Expressions, no program: which trees may be; what a text's tree is made of.
  Whether a number, a name, a node may be: the program's own looks.
  Whether a tree may be: the program's own count.
  An error comes back: what is deferred at Parse; Parse.
  Parse: the tree, or the error and where it is met.
-/
import Derived.Test.YtcmkgoikmleanaaGreatDoorMEb
import Derived.Test.YtcmkgoikmleanaaGreatDoorMDc
import Derived.Test.YtcmkgoikmleanaaGreatDoorMRb
import Derived.Tactics2
import Derived.Defers
import Derived.Recover
import Derived.Laws.Pointers
namespace Go.Proofs.YtcmkgoikmleanaaGreatDoor
set_option maxRecDepth 20000
open Go.RowKit

def Ex.deep : Ex → Nat
  | .bad => 1 | .num _ => 1 | .nm _ => 1 | .bin _ a b => max a.deep b.deep + 1 | .neg a => a.deep + 1
/-- The signs of two are such. -/
def Ex.wf : Ex → Prop
  | .bad => True | .num _ => True | .nm _ => True | .bin k a b => (k = 3 ∨ k = 4 ∨ k = 5 ∨ k = 6) ∧ a.wf ∧ b.wf | .neg a => a.wf
/-- A number that a node may have. -/
def NumOk (r : Rat) : Prop := (lim r.num.natAbs).length ≤ 16 ∧ (lim r.den).length ≤ 16 ∧ ¬ r.num < 0 ∧ ∃ F, ExW F true r
/-- A name. -/
def isName (s : ByteArray) : Bool := decide (0 < s.size) && decide (s.size ≤ 24) && isLw (bt s 0) && s.data.toList.all isNb
def Ex.fine : Ex → Prop
  | .bad => False | .num r => NumOk r | .nm s => isName s = true | .bin _ a b => a.fine ∧ b.fine | .neg a => a.fine
/-- It may be. -/
def Ex.may (t : Ex) (d l : Nat) : Prop := t.fine ∧ t.deep ≤ d ∧ t.nodes ≤ l
theorem Ex.deep_pos (t : Ex) : 0 < t.deep := by cases t <;> simp [Ex.deep]
theorem Ex.nodes_pos (t : Ex) : 0 < t.nodes := by cases t <;> simp only [Ex.nodes] <;> omega
theorem fine_bad {t : Ex} (h : t.hasBad = true) : ¬ t.fine := by
  induction t with
  | bad => exact fun h => h
  | num r => cases h
  | nm s => cases h
  | bin k a b iha ihb =>
    simp only [Ex.hasBad, Bool.or_eq_true] at h
    rintro ⟨h1, h2⟩
    rcases h with h | h
    · exact iha h h1
    · exact ihb h h2
  | neg a iha => exact fun h1 => iha h h1
def PR.Wf : PR → Prop
  | .err _ _ => True
  | .ok t u _ _ _ => t.wf ∧ u.wf
theorem wf_then {r : PR} {f : Ex → Ex → Nat → Nat → Bool → PR} (h : r.Wf) (hf : ∀ t u p n lg, t.wf → u.wf → (f t u p n lg).Wf) : (r.then f).Wf := by
  cases r with
  | err a c => trivial
  | ok t u p n lg => exact hf _ _ _ _ _ h.1 h.2
theorem wf_mk {n : Nat} {t : Ex} (h : t.wf) : (mk n t).wf := by unfold mk; split; exact h; trivial
theorem wf_numE (S : ByteArray) (q z n : Nat) : (numE tv S q z n).Wf := by
  unfold numE; split
  · exact ⟨wf_mk trivial, trivial⟩
  · exact ⟨trivial, trivial⟩
theorem wf_numb (S : ByteArray) (q n : Nat) : (numb tv S q n).Wf := by
  unfold numb
  split
  · split
    · trivial
    · exact wf_numE _ _ _ _
  · exact wf_numE _ _ _ _
theorem wf_name (S : ByteArray) (q n : Nat) : (name S q n).Wf := by
  unfold name
  split
  · trivial
  · exact ⟨wf_mk trivial, trivial⟩
theorem wf_rowL {S : ByteArray} {m : Nat → Nat → PR} {kf : UInt8 → Nat} (hk : ∀ c, kf c = 0 ∨ (kf c = 3 ∨ kf c = 4 ∨ kf c = 5 ∨ kf c = 6)) (hm : ∀ p n, (m p n).Wf) : ∀ (f : Nat) (t u : Ex) (p n : Nat) (lg : Bool), t.wf → u.wf → (rowL S m kf f t u p n lg).Wf := by
  intro f
  induction f with
  | zero => exact fun t u p n lg h1 h2 => ⟨h1, h2⟩
  | succ f ih =>
    intro t u p n lg h1 h2
    unfold rowL
    split
    · exact ⟨h1, h2⟩
    · rename_i hne
      have hkk := (hk (bt S (skp S p))).resolve_left hne
      exact wf_then (hm _ _) fun t2 u2 p2 n2 lg2 h3 h4 => ih _ _ _ _ _ (wf_mk ⟨hkk, h1, h3⟩) ⟨hkk, h2, h4⟩
theorem wf_rowS {S : ByteArray} {m : Nat → Nat → PR} {kf : UInt8 → Nat} (hk : ∀ c, kf c = 0 ∨ (kf c = 3 ∨ kf c = 4 ∨ kf c = 5 ∨ kf c = 6)) (hm : ∀ p n, (m p n).Wf) (p n : Nat) : (rowS S m kf p n).Wf :=
  wf_then (hm _ _) fun _ _ _ _ _ h1 h2 => wf_rowL hk hm _ _ _ _ _ _ h1 h2
theorem kSum_k (c : UInt8) : kSum c = 0 ∨ (kSum c = 3 ∨ kSum c = 4 ∨ kSum c = 5 ∨ kSum c = 6) := by unfold kSum; split; simp; split <;> simp
theorem kPro_k (c : UInt8) : kPro c = 0 ∨ (kPro c = 3 ∨ kPro c = 4 ∨ kPro c = 5 ∨ kPro c = 6) := by unfold kPro; split; simp; split <;> simp
theorem wf_fac {S : ByteArray} {dp : Option ((Nat → Nat → PR) × (Nat → Nat → PR))} (hd : ∀ x, dp = some x → (∀ p n, (x.1 p n).Wf) ∧ (∀ p n, (x.2 p n).Wf)) (p n : Nat) : (fac tv S dp p n).Wf := by
  unfold fac
  split
  · split
    · trivial
    · exact wf_then ((hd _ rfl).1 _ _) fun t u p2 n2 lg h1 h2 => ⟨wf_mk h1, h2⟩
  · split
    · split
      · trivial
      · refine wf_then ((hd _ rfl).2 _ _) fun t u p2 n2 lg h1 h2 => ?_
        split
        · exact ⟨h1, h2⟩
        · trivial
    · split
      · exact wf_numb _ _ _
      · split
        · exact wf_name _ _ _
        · trivial
theorem wf_lev (S : ByteArray) : ∀ k, (∀ p n, ((lev tv S k).1 p n).Wf) ∧ (∀ p n, ((lev tv S k).2 p n).Wf) := by
  intro k
  induction k with
  | zero =>
    have h : ∀ p n, (fac tv S none p n).Wf := wf_fac (by rintro x ⟨⟩)
    exact ⟨h, wf_rowS kSum_k (wf_rowS kPro_k h)⟩
  | succ k ih =>
    have h : ∀ p n, (fac tv S (some (lev tv S k)) p n).Wf := wf_fac (by rintro x ⟨⟩; exact ih)
    exact ⟨h, wf_rowS kSum_k (wf_rowS kPro_k h)⟩
theorem wf_parse (S : ByteArray) : (parse tv S).Wf := by
  refine wf_then ((wf_lev S 31).2 0 0) fun t u p n lg h1 h2 => ?_
  split
  · trivial
  · exact ⟨h1, h2⟩
theorem exW_true {F G : ByteArray} {r : Rat} (h : ExW F true r) (h' : ExW G false r) : False := by
  rcases h with ⟨_, K, hK, hE, _⟩ | ⟨h, _⟩
  · rcases h' with ⟨h', _⟩ | ⟨_, _, hn⟩
    · cases h'
    · exact hn K hK hE.1
  · cases h
end Go.Proofs.YtcmkgoikmleanaaGreatDoor

namespace Go.Proofs.YtcmkgoikmleanaaGreatDoor
set_option maxRecDepth 20000
open Go.RowKit

theorem isN_rt {w : World} {lo : Nat} {v : Rv} {r : Rat} (h : Rt w lo v r) : IsN v.s (lim r.num.natAbs) (lim r.den) := by
  refine ⟨lim_tr _, lim_tr _, ?_, ?_, ?_⟩
  · rw [val_lim]; exact r.den_nz
  · intro hs
    rw [val_lim]
    rw [h.sign] at hs
    have := of_decide_eq_true hs
    omega
  · rw [val_lim, val_lim]; exact r.reduced

set_option maxHeartbeats 1600000 in
theorem isNum_c (v : Rv) (r : Rat) (b : Bool) (lo : Nat) (w : World) (h : Rt w lo v r) (ht : Tb w) (hbb : b = true ↔ NumOk r) :
    Calls Tryz.prog 81 #[.agg #[.bool v.s, .slice v.A v.n v.c, .slice v.B v.m v.d]] w fun e w' => e = .returned (.bool b) ∧ Below w.heap.size w w' := by
  have hk := C3.new w (.bool v.s) (.slice v.A v.n v.c) (.slice v.B v.m v.d)
  have hb0 := (Below.refl w.heap.size w).alloc (Nat.le_refl _) (.cells #[.bool v.s, .slice v.A v.n v.c, .slice v.B v.m v.d] 24)
  have HN := Lib.hid h.numLen
  have HM := Lib.hid h.denLen
  have bf : ¬ NumOk r → b = false := fun h => by cases b with | false => rfl | true => exact absurd (hbb.1 rfl) h
  obtain ⟨q0, q1, q2, q3, q4, q5⟩ := hk.facts
  by_cases h1 : v.n ≤ 16
  · have i1 : ¬ (16 : Int) < (v.n : Int) := by omega
    by_cases h2 : v.m ≤ 16
    · have i2 : ¬ (16 : Int) < (v.m : Int) := by omega
      rcases Bool.eq_false_or_eq_true v.s with hs | hs
      · have hno : ¬ NumOk r := by
          rintro ⟨_, _, h3, _⟩
          rw [h.sign] at hs
          exact h3 (of_decide_eq_true hs)
        have HBF := Lib.hid (bf hno)
        clear hbb bf hno
        rw [hs] at q0 hk ⊢
        go_enter Tryz.func81, Tryz.ntmps81
        go_wp2
        go_ret
        exact ⟨by rw [HBF.out]; rfl, by rw [hs] at hb0; exact hb0⟩
      · obtain ⟨G, b', hE⟩ := exW_ex r
        have hn := HN.out
        have hm := HM.out
        have sz : Sz r 16 := ⟨Bd.ofL (by rw [← hn]; exact h1), Bd.ofL (by rw [← hm]; exact h2)⟩
        have hw : Rw w v r 400 := (h.rw sz).more (by omega)
        have hiff : b' = b := by
          rw [Bool.eq_iff_iff, hbb]
          constructor
          · intro hb
            subst hb
            refine ⟨by omega, by omega, ?_, G, hE⟩
            rw [h.sign] at hs
            exact of_decide_eq_false hs
          · rintro ⟨_, _, _, G', hE'⟩
            cases b' with
            | true => rfl
            | false => exact (exW_true hE' hE).elim
        subst hiff
        have HE := Lib.hid hE
        have hN := Lib.hid (isN_rt h)
        replace h := h.below hb0
        replace hw := hw.below hb0
        replace ht := ht.below hb0
        clear hE sz hbb bf hn hm
        clear q0 q1 q2 q3 q4 q5 i1 i2
        obtain ⟨vs, vA, vn, vc, vB, vm, vd⟩ := v
        dsimp only at *
        subst hs
        have i1 : ¬ (16 : Int) < (vn : Int) := by omega
        have i2 : ¬ (16 : Int) < (vm : Int) := by omega
        obtain ⟨q0, q1, q2, q3, q4, q5⟩ := hk.facts
        generalize hws : w.alloc (.cells #[.bool false, .slice vA vn vc, .slice vB vm vd] 24) = w1 at *
        go_enter Tryz.func81, Tryz.ntmps81
        go_wp2_with fail
        clear hws
        refine (Is_c ⟨false, vA, vn, vc, vB, vm, vd⟩ (lim r.num.natAbs) (lim r.den) true _ h.numCap h.denCap (by show vn ≤ 2000; omega) (by show vm ≤ 2000; omega) (h.num.lower (Nat.zero_le _)) (h.den.lower (Nat.zero_le _)) ⟨fun _ => hN.out, fun _ => rfl⟩).mono ?_
        rintro e w2 ⟨rfl, hb⟩
        replace hk := hk.below hb
        replace hw := hw.below hb
        replace ht := ht.below hb
        replace hb0 := hb0.trans (hb.mono hb0.size)
        clear hb h q0 q1 q2 q3 q4 q5
        obtain ⟨q0, q1, q2, q3, q4, q5⟩ := hk.facts
        go_wp2_with fail
        refine (dExact_v G b' ⟨false, vA, vn, vc, vB, vm, vd⟩ r _ HE.out hw ht).mono ?_
        rintro e w3 ⟨rfl, hb⟩
        replace hb0 := hb0.trans (hb.mono hb0.size)
        clear hb hk hw q0 q1 q2 q3 q4 q5
        go_wp2
        go_ret
        exact ⟨rfl, hb0⟩
    · have i2 : (16 : Int) < (v.m : Int) := by omega
      have hno : ¬ NumOk r := by rintro ⟨_, h3, _⟩; have := HM.out; omega
      have HBF := Lib.hid (bf hno)
      clear hbb bf hno
      go_enter Tryz.func81, Tryz.ntmps81
      go_wp2
      go_ret
      exact ⟨by rw [HBF.out]; rfl, hb0⟩
  · have i1 : (16 : Int) < (v.n : Int) := by omega
    have hno : ¬ NumOk r := by rintro ⟨h3, _⟩; have := HN.out; omega
    have HBF := Lib.hid (bf hno)
    clear hbb bf hno
    go_enter Tryz.func81, Tryz.ntmps81
    go_wp2
    go_ret
    exact ⟨by rw [HBF.out]; rfl, hb0⟩
set_option maxHeartbeats 1600000 in
theorem isNoNum_c (w : World) :
    Calls Tryz.prog 82 #[.agg #[.bool false, .slice none 0 0, .slice none 0 0]] w fun e w' => e = .returned (.bool true) ∧ Below w.heap.size w w' := by
  have hb0 := (Below.refl w.heap.size w).alloc (Nat.le_refl _) (.cells #[.bool false, .slice none 0 0, .slice none 0 0] 24)
  go_enter Tryz.func82, Tryz.ntmps82
  go_wp2
  go_ret
  exact ⟨rfl, hb0⟩
theorem isName_iff {s : ByteArray} : isName s = true ↔ 0 < s.size ∧ s.size ≤ 24 ∧ isLw (bt s 0) = true ∧ ∀ j, j < s.size → isNb (bt s j) = true := by
  unfold isName
  simp only [Bool.and_eq_true, decide_eq_true_eq, List.all_eq_true]
  constructor
  · rintro ⟨⟨⟨h1, h2⟩, h3⟩, h4⟩
    refine ⟨h1, h2, h3, fun j hj => h4 _ ?_⟩
    unfold bt
    rw [List.getElem?_eq_getElem (by rw [data_size]; exact hj), Option.getD_some]
    exact List.getElem_mem _
  · rintro ⟨h1, h2, h3, h4⟩
    refine ⟨⟨⟨h1, h2⟩, h3⟩, fun c hc => ?_⟩
    obtain ⟨j, hj, rfl⟩ := List.getElem_of_mem hc
    have := h4 j (by rw [← data_size]; exact hj)
    unfold bt at this
    rw [List.getElem?_eq_getElem hj, Option.getD_some] at this
    exact this
set_option maxHeartbeats 1600000 in
theorem Name_c (s : ByteArray) (w : World) : Calls Tryz.prog 83 #[.string s] w fun e w' => e = .returned (.bool (isName s)) ∧ w = w' := by
  have hiff := isName_iff (s := s)
  have si : ∀ b, (isName s = true ↔ b = true) → isName s = b := fun b h => Bool.eq_iff_iff.2 h
  by_cases h0 : s.size = 0
  · have : s = ⟨#[]⟩ := str_nil h0
    subst this
    go_enter Tryz.func83, Tryz.ntmps83
    go_wp2
    go_ret
    exact ⟨by rw [si false ⟨fun h => by have := (hiff.1 h).1; omega, fun h => Bool.noConfusion h⟩]; rfl, rfl⟩
  · have hne := str_ne (S := s) (by omega)
    by_cases h1 : s.size ≤ 24
    · have i1 : ¬ (24 : Int) < (s.size : Int) := by omega
      have i0 : (0 : Int) < (s.size : Int) := by omega
      have hl : 0 < s.size := by omega
      have hi := Lib.hid hiff
      have si2 := Lib.hid si
      clear hiff si
      cases hlw : isLw (bt s 0) with
      | false =>
        have HL : Hid (isLw s[0] = false) := by rw [bt_lt hl] at hlw; exact hlw
        have HF : Hid (isName s = false) := si2.out false ⟨fun h => by have := (hi.out.1 h).2.2.1; rw [hlw] at this; exact this, fun h => Bool.noConfusion h⟩
        clear hlw
        go_enter Tryz.func83, Tryz.ntmps83
        go_wp2_with fail
        refine (isLetter_c s[0] _).mono ?_
        rintro e w' ⟨rfl, rfl⟩
        rw [HL.out]
        go_wp2
        go_ret
        exact ⟨by rw [HF.out]; rfl, rfl⟩
      | true =>
        have HL : Hid (isLw s[0] = true) := by rw [bt_lt hl] at hlw; exact hlw
        have HLW := Lib.hid hlw
        clear hlw
        go_enter Tryz.func83, Tryz.ntmps83
        go_wp2_with fail
        refine (isLetter_c s[0] _).mono ?_
        rintro e w' ⟨rfl, rfl⟩
        rw [HL.out]
        go_wp2
        go_loop [19] (fun v => ∃ i : Nat, i ≤ s.size ∧ Hid (∀ j, j < i → isNb (bt s j) = true) ∧ v = .int .i64 i) (fun v => s.size - (intOf v).toNat)
        case atStart => exact ⟨0, Nat.zero_le _, fun j h => absurd h (by omega), rfl⟩
        case round =>
          obtain ⟨i, hi1, HJ, rfl⟩ := hrel
          have j0 : (0 : Int) ≤ (i : Int) := by omega
          by_cases hlt : i < s.size
          · have j1 : (i : Int) < (s.size : Int) := by omega
            have j2 : (i : Int) ≤ 24 := by omega
            cases hnb : isNb (bt s i) with
            | false =>
              have HB : Hid (isNb s[i] = false) := by rw [bt_lt hlt] at hnb; exact hnb
              have HF : Hid (isName s = false) := si2.out false ⟨fun h => by have := (hi.out.1 h).2.2.2 i hlt; rw [hnb] at this; exact this, fun h => Bool.noConfusion h⟩
              clear hnb
              go_wp2_with fail
              refine (isNameByte_c s[i] _).mono ?_
              rintro e w' ⟨rfl, rfl⟩
              rw [HB.out]
              go_wp2
              go_ret
              exact ⟨by rw [HF.out]; rfl, rfl⟩
            | true =>
              have HB : Hid (isNb s[i] = true) := by rw [bt_lt hlt] at hnb; exact hnb
              have HJ2 : Hid (∀ j, j < i + 1 → isNb (bt s j) = true) := fun j hj => by
                by_cases h : j = i
                · subst h; exact hnb
                · exact HJ.out j (by omega)
              clear hnb
              go_wp2_with fail
              refine (isNameByte_c s[i] _).mono ?_
              rintro e w' ⟨rfl, rfl⟩
              rw [HB.out]
              go_wp2
              go_round
              case rel => exact ⟨i + 1, by omega, HJ2, by go_num⟩
              case measure => simp [intOf]; omega
          · have e : i = s.size := by omega
            have j1 : ¬ (i : Int) < (s.size : Int) := by omega
            have HF : Hid (isName s = true) := hi.out.2 ⟨hl, h1, HLW.out, fun j hj => HJ.out j (by omega)⟩
            go_wp2
            go_ret
            exact ⟨by rw [HF.out]; rfl, rfl⟩
    · have i1 : (24 : Int) < (s.size : Int) := by omega
      go_enter Tryz.func83, Tryz.ntmps83
      go_wp2
      go_ret
      exact ⟨by rw [si false ⟨fun h => by have := (hiff.1 h).2.1; omega, fun h => Bool.noConfusion h⟩]; rfl, rfl⟩
set_option maxHeartbeats 1600000 in
theorem isNode_bad  (w : World) :
    Calls Tryz.prog 55 #[.agg #[.int .i64 0, .bool false, .slice none 0 0, .slice none 0 0, .string ⟨#[]⟩, .slice none 0 0]] w fun e w' => e = .returned (.bool false) ∧ Below w.heap.size w w' := by
  have hk := C6.new w (.int .i64 0) (.bool false) (.slice none 0 0) (.slice none 0 0) (.string ⟨#[]⟩) (.slice none 0 0)
  have hb0 := (Below.refl w.heap.size w).alloc (Nat.le_refl _) (.cells #[.int .i64 0, .bool false, .slice none 0 0, .slice none 0 0, .string ⟨#[]⟩, .slice none 0 0] 27)
  generalize hW : w.alloc (.cells #[.int .i64 0, .bool false, .slice none 0 0, .slice none 0 0, .string ⟨#[]⟩, .slice none 0 0] 27) = w1 at *
  obtain ⟨q0, q1, q2, q3, q4, q5⟩ := hk.facts
  go_enter Tryz.func55, Tryz.ntmps55
  go_wp2
  go_ret
  exact ⟨rfl, hb0⟩
set_option maxHeartbeats 1600000 in
theorem isNode_neg (A : Option Addr) (w : World) :
    Calls Tryz.prog 55 #[.agg #[.int .i64 7, .bool false, .slice none 0 0, .slice none 0 0, .string ⟨#[]⟩, .slice A 1 1]] w fun e w' => e = .returned (.bool true) ∧ Below w.heap.size w w' := by
  have hk := C6.new w (.int .i64 7) (.bool false) (.slice none 0 0) (.slice none 0 0) (.string ⟨#[]⟩) (.slice A 1 1)
  have hb0 := (Below.refl w.heap.size w).alloc (Nat.le_refl _) (.cells #[.int .i64 7, .bool false, .slice none 0 0, .slice none 0 0, .string ⟨#[]⟩, .slice A 1 1] 27)
  generalize hW : w.alloc (.cells #[.int .i64 7, .bool false, .slice none 0 0, .slice none 0 0, .string ⟨#[]⟩, .slice A 1 1] 27) = w1 at *
  obtain ⟨q0, q1, q2, q3, q4, q5⟩ := hk.facts
  go_enter Tryz.func55, Tryz.ntmps55
  go_wp2_with fail
  first | rw [hW] | skip
  refine (isNoNum_c _).mono ?_
  rintro e w2 ⟨rfl, hb⟩
  replace hk := hk.below hb
  replace hb0 := hb0.trans (hb.mono hb0.size)
  clear hb q0 q1 q2 q3 q4 q5
  obtain ⟨q0, q1, q2, q3, q4, q5⟩ := hk.facts
  go_wp2
  go_ret
  exact ⟨rfl, hb0⟩
set_option maxHeartbeats 1600000 in
theorem isNode_bin3 (A : Option Addr) (w : World) :
    Calls Tryz.prog 55 #[.agg #[.int .i64 3, .bool false, .slice none 0 0, .slice none 0 0, .string ⟨#[]⟩, .slice A 2 2]] w fun e w' => e = .returned (.bool true) ∧ Below w.heap.size w w' := by
  have hk := C6.new w (.int .i64 3) (.bool false) (.slice none 0 0) (.slice none 0 0) (.string ⟨#[]⟩) (.slice A 2 2)
  have hb0 := (Below.refl w.heap.size w).alloc (Nat.le_refl _) (.cells #[.int .i64 3, .bool false, .slice none 0 0, .slice none 0 0, .string ⟨#[]⟩, .slice A 2 2] 27)
  generalize hW : w.alloc (.cells #[.int .i64 3, .bool false, .slice none 0 0, .slice none 0 0, .string ⟨#[]⟩, .slice A 2 2] 27) = w1 at *
  obtain ⟨q0, q1, q2, q3, q4, q5⟩ := hk.facts
  go_enter Tryz.func55, Tryz.ntmps55
  go_wp2_with fail
  first | rw [hW] | skip
  refine (isNoNum_c _).mono ?_
  rintro e w2 ⟨rfl, hb⟩
  replace hk := hk.below hb
  replace hb0 := hb0.trans (hb.mono hb0.size)
  clear hb q0 q1 q2 q3 q4 q5
  obtain ⟨q0, q1, q2, q3, q4, q5⟩ := hk.facts
  go_wp2
  go_ret
  exact ⟨rfl, hb0⟩
set_option maxHeartbeats 1600000 in
theorem isNode_bin4 (A : Option Addr) (w : World) :
    Calls Tryz.prog 55 #[.agg #[.int .i64 4, .bool false, .slice none 0 0, .slice none 0 0, .string ⟨#[]⟩, .slice A 2 2]] w fun e w' => e = .returned (.bool true) ∧ Below w.heap.size w w' := by
  have hk := C6.new w (.int .i64 4) (.bool false) (.slice none 0 0) (.slice none 0 0) (.string ⟨#[]⟩) (.slice A 2 2)
  have hb0 := (Below.refl w.heap.size w).alloc (Nat.le_refl _) (.cells #[.int .i64 4, .bool false, .slice none 0 0, .slice none 0 0, .string ⟨#[]⟩, .slice A 2 2] 27)
  generalize hW : w.alloc (.cells #[.int .i64 4, .bool false, .slice none 0 0, .slice none 0 0, .string ⟨#[]⟩, .slice A 2 2] 27) = w1 at *
  obtain ⟨q0, q1, q2, q3, q4, q5⟩ := hk.facts
  go_enter Tryz.func55, Tryz.ntmps55
  go_wp2_with fail
  first | rw [hW] | skip
  refine (isNoNum_c _).mono ?_
  rintro e w2 ⟨rfl, hb⟩
  replace hk := hk.below hb
  replace hb0 := hb0.trans (hb.mono hb0.size)
  clear hb q0 q1 q2 q3 q4 q5
  obtain ⟨q0, q1, q2, q3, q4, q5⟩ := hk.facts
  go_wp2
  go_ret
  exact ⟨rfl, hb0⟩
set_option maxHeartbeats 1600000 in
theorem isNode_bin5 (A : Option Addr) (w : World) :
    Calls Tryz.prog 55 #[.agg #[.int .i64 5, .bool false, .slice none 0 0, .slice none 0 0, .string ⟨#[]⟩, .slice A 2 2]] w fun e w' => e = .returned (.bool true) ∧ Below w.heap.size w w' := by
  have hk := C6.new w (.int .i64 5) (.bool false) (.slice none 0 0) (.slice none 0 0) (.string ⟨#[]⟩) (.slice A 2 2)
  have hb0 := (Below.refl w.heap.size w).alloc (Nat.le_refl _) (.cells #[.int .i64 5, .bool false, .slice none 0 0, .slice none 0 0, .string ⟨#[]⟩, .slice A 2 2] 27)
  generalize hW : w.alloc (.cells #[.int .i64 5, .bool false, .slice none 0 0, .slice none 0 0, .string ⟨#[]⟩, .slice A 2 2] 27) = w1 at *
  obtain ⟨q0, q1, q2, q3, q4, q5⟩ := hk.facts
  go_enter Tryz.func55, Tryz.ntmps55
  go_wp2_with fail
  first | rw [hW] | skip
  refine (isNoNum_c _).mono ?_
  rintro e w2 ⟨rfl, hb⟩
  replace hk := hk.below hb
  replace hb0 := hb0.trans (hb.mono hb0.size)
  clear hb q0 q1 q2 q3 q4 q5
  obtain ⟨q0, q1, q2, q3, q4, q5⟩ := hk.facts
  go_wp2
  go_ret
  exact ⟨rfl, hb0⟩
set_option maxHeartbeats 1600000 in
theorem isNode_bin6 (A : Option Addr) (w : World) :
    Calls Tryz.prog 55 #[.agg #[.int .i64 6, .bool false, .slice none 0 0, .slice none 0 0, .string ⟨#[]⟩, .slice A 2 2]] w fun e w' => e = .returned (.bool true) ∧ Below w.heap.size w w' := by
  have hk := C6.new w (.int .i64 6) (.bool false) (.slice none 0 0) (.slice none 0 0) (.string ⟨#[]⟩) (.slice A 2 2)
  have hb0 := (Below.refl w.heap.size w).alloc (Nat.le_refl _) (.cells #[.int .i64 6, .bool false, .slice none 0 0, .slice none 0 0, .string ⟨#[]⟩, .slice A 2 2] 27)
  generalize hW : w.alloc (.cells #[.int .i64 6, .bool false, .slice none 0 0, .slice none 0 0, .string ⟨#[]⟩, .slice A 2 2] 27) = w1 at *
  obtain ⟨q0, q1, q2, q3, q4, q5⟩ := hk.facts
  go_enter Tryz.func55, Tryz.ntmps55
  go_wp2_with fail
  first | rw [hW] | skip
  refine (isNoNum_c _).mono ?_
  rintro e w2 ⟨rfl, hb⟩
  replace hk := hk.below hb
  replace hb0 := hb0.trans (hb.mono hb0.size)
  clear hb q0 q1 q2 q3 q4 q5
  obtain ⟨q0, q1, q2, q3, q4, q5⟩ := hk.facts
  go_wp2
  go_ret
  exact ⟨rfl, hb0⟩
set_option maxHeartbeats 1600000 in
theorem isNode_num (y : Rv) (r : Rat) (b : Bool) (lo : Nat) (hbb : b = true ↔ NumOk r) (w : World) (h : Rt w lo y r) (ht : Tb w) :
    Calls Tryz.prog 55 #[.agg #[.int .i64 1, .bool y.s, .slice y.A y.n y.c, .slice y.B y.m y.d, .string ⟨#[]⟩, .slice none 0 0]] w fun e w' => e = .returned (.bool b) ∧ Below w.heap.size w w' := by
  have hb := Lib.hid hbb
  clear hbb
  replace h := h.below ((Below.refl w.heap.size w).alloc (Nat.le_refl _) (.cells #[.int .i64 1, .bool y.s, .slice y.A y.n y.c, .slice y.B y.m y.d, .string ⟨#[]⟩, .slice none 0 0] 27))
  replace ht := ht.below ((Below.refl w.heap.size w).alloc (Nat.le_refl _) (.cells #[.int .i64 1, .bool y.s, .slice y.A y.n y.c, .slice y.B y.m y.d, .string ⟨#[]⟩, .slice none 0 0] 27))
  have hk := C6.new w (.int .i64 1) (.bool y.s) (.slice y.A y.n y.c) (.slice y.B y.m y.d) (.string ⟨#[]⟩) (.slice none 0 0)
  have hb0 := (Below.refl w.heap.size w).alloc (Nat.le_refl _) (.cells #[.int .i64 1, .bool y.s, .slice y.A y.n y.c, .slice y.B y.m y.d, .string ⟨#[]⟩, .slice none 0 0] 27)
  generalize hW : w.alloc (.cells #[.int .i64 1, .bool y.s, .slice y.A y.n y.c, .slice y.B y.m y.d, .string ⟨#[]⟩, .slice none 0 0] 27) = w1 at *
  obtain ⟨q0, q1, q2, q3, q4, q5⟩ := hk.facts
  go_enter Tryz.func55, Tryz.ntmps55
  go_wp2_with fail
  first | rw [hW] | skip
  refine (isNum_c y r b lo _ h ht hb.out).mono ?_
  rintro e w2 ⟨rfl, hbw⟩
  replace hk := hk.below hbw
  replace hb0 := hb0.trans (hbw.mono hb0.size)
  clear q0 q1 q2 q3 q4 q5
  obtain ⟨q0, q1, q2, q3, q4, q5⟩ := hk.facts
  clear hb
  cases b with
  | true =>
    go_wp2
    go_ret
    exact ⟨rfl, hb0⟩
  | false =>
    go_wp2
    go_ret
    exact ⟨rfl, hb0⟩
set_option maxHeartbeats 1600000 in
theorem isNode_nm (s : ByteArray) (w : World) :
    Calls Tryz.prog 55 #[.agg #[.int .i64 2, .bool false, .slice none 0 0, .slice none 0 0, .string s, .slice none 0 0]] w fun e w' => e = .returned (.bool (isName s)) ∧ Below w.heap.size w w' := by
  have hk := C6.new w (.int .i64 2) (.bool false) (.slice none 0 0) (.slice none 0 0) (.string s) (.slice none 0 0)
  have hb0 := (Below.refl w.heap.size w).alloc (Nat.le_refl _) (.cells #[.int .i64 2, .bool false, .slice none 0 0, .slice none 0 0, .string s, .slice none 0 0] 27)
  generalize hW : w.alloc (.cells #[.int .i64 2, .bool false, .slice none 0 0, .slice none 0 0, .string s, .slice none 0 0] 27) = w1 at *
  obtain ⟨q0, q1, q2, q3, q4, q5⟩ := hk.facts
  go_enter Tryz.func55, Tryz.ntmps55
  go_wp2_with fail
  first | rw [hW] | skip
  refine (isNoNum_c _).mono ?_
  rintro e w2 ⟨rfl, hb⟩
  replace hk := hk.below hb
  replace hb0 := hb0.trans (hb.mono hb0.size)
  clear hb q0 q1 q2 q3 q4 q5
  obtain ⟨q0, q1, q2, q3, q4, q5⟩ := hk.facts
  go_wp2_with fail
  refine (Name_c s _).mono ?_
  rintro e w' ⟨rfl, rfl⟩
  cases hn : isName s with
  | true =>
    have HN := Lib.hid hn
    clear hn
    go_wp2
    go_ret
    exact ⟨by first | rfl | (rw [HN.out]; rfl), hb0⟩
  | false =>
    have HN := Lib.hid hn
    clear hn
    go_wp2
    go_ret
    exact ⟨by first | rfl | (rw [HN.out]; rfl), hb0⟩
end Go.Proofs.YtcmkgoikmleanaaGreatDoor

namespace Go.Proofs.YtcmkgoikmleanaaGreatDoor
set_option maxRecDepth 20000
open Go.RowKit

/-- A block that holds how many nodes are left. -/
structure IC (w0 : World) (q : Nat) (w : World) (l : Nat) : Prop where
  ge : w0.heap.size ≤ q
  below : Below w0.heap.size w0 w
  blk : w.heap[q]? = some (.cells #[.int .i64 l] 3 (0, 0))
section
variable {w0 w w' : World} {q l : Nat}
theorem IC.lt (h : IC w0 q w l) : q < w.heap.size := by
  rcases Nat.lt_or_ge q w.heap.size with h1 | h1
  · exact h1
  · have : w.heap[q]? = none := Array.getElem?_eq_none h1
    rw [h.blk] at this; cases this
theorem IC.facts (h : IC w0 q w l) : w.cell? ⟨q, 0, none⟩ = some (.int .i64 l) ∧ w.frozen? ⟨q, 0, none⟩ = false := by
  have h' := h.blk
  refine ⟨?_, ?_⟩ <;> simp [World.cell?, World.frozen?, h']
theorem IC.next (h : IC w0 q w l) (hb : Below w.heap.size w w') : IC w0 q w' l := ⟨h.ge, h.below.trans (hb.mono h.below.size), (hb.block q h.lt).trans h.blk⟩
theorem IC.alloc (h : IC w0 q w l) (o : Obj) : IC w0 q (w.alloc o) l := h.next ((Below.refl _ _).alloc (Nat.le_refl _) o)
theorem IC.set (h : IC w0 q w l) {m : Nat} {v : Int} (hv : v = (m : Int)) : IC w0 q (w.setCell ⟨q, 0, none⟩ (.int .i64 v)) m := by
  subst hv
  refine ⟨h.ge, h.below.trans (((But.refl q w).set _ _).below h.ge h.below.size), ?_⟩
  show (w.heap.modify q _)[q]? = _
  rw [Array.getElem?_modify, if_pos rfl, h.blk]; rfl
end
def sumN (ks : Nat → Ex) : Nat → Nat
  | 0 => 0
  | i + 1 => sumN ks i + (ks i).nodes
theorem sumN_mono (ks : Nat → Ex) {i n : Nat} (h : i < n) : sumN ks (i + 1) ≤ sumN ks n := by
  induction n with
  | zero => omega
  | succ n ih =>
    by_cases h1 : i = n
    · subst h1; exact Nat.le_refl _
    · exact Nat.le_trans (ih (by omega)) (Nat.le_add_right _ _)
/-- What the count answers. -/
def MB (w0 : World) (q : Nat) (w : World) (t : Ex) (d l : Nat) (e : Ending) (w' : World) : Prop :=
  ∃ b l', e = .returned (.bool b) ∧ (b = true ↔ t.may d l) ∧ (b = true → l' + t.nodes = l) ∧ IC w0 q w' l' ∧ But q w w'
/-- Six cells of a row of structs. -/
def At6 (w : World) (b0 o : Nat) (x : Ev) : Prop :=
  w.cell? ⟨b0, o, none⟩ = some (.int .i64 x.k) ∧ w.cell? ⟨b0, o + 1, none⟩ = some (.bool x.r.s) ∧ w.cell? ⟨b0, o + 2, none⟩ = some (.slice x.r.A x.r.n x.r.c) ∧ w.cell? ⟨b0, o + 3, none⟩ = some (.slice x.r.B x.r.m x.r.d) ∧
  w.cell? ⟨b0, o + 4, none⟩ = some (.string x.s) ∧ w.cell? ⟨b0, o + 5, none⟩ = some (.slice x.K x.n x.c)
theorem At6.keep {w w' : World} {b0 o : Nat} {x : Ev} (h : At6 w b0 o x) (hk : w'.heap[b0]? = w.heap[b0]?) : At6 w' b0 o x := by
  obtain ⟨h0, h1, h2, h3, h4, h5⟩ := h
  have e : ∀ j, w'.cell? ⟨b0, j, none⟩ = w.cell? ⟨b0, j, none⟩ := fun j => World.cell?_of_block hk
  exact ⟨(e _).trans h0, (e _).trans h1, (e _).trans h2, (e _).trans h3, (e _).trans h4, (e _).trans h5⟩
set_option maxHeartbeats 8000000 in
theorem mayBe_step {w0 w : World} {q b0 n d l : Nat} {v : Ev} (nb : Bool) (t : Ex) (xs : Nat → Ev) (ks : Nat → Ex)
    (hnode : ∀ w', Below w.heap.size w w' → Calls Tryz.prog 55 #[.agg #[.int .i64 v.k, .bool v.r.s, .slice v.r.A v.r.n v.r.c, .slice v.r.B v.r.m v.r.d, .string v.s, .slice v.K v.n v.c]] w' fun e w'' => e = .returned (.bool nb) ∧ Below w'.heap.size w' w'')
    (hv : v.K = some ⟨b0, 0, none⟩) (hn : v.n = n) (hc : v.c = n) (hn2 : n ≤ 2) (hpos : 0 < n) (hbq : b0 ≠ q) (hb0 : b0 < w.heap.size)
    (hx : ∀ i, i < n → At6 w b0 (i * 6) (xs i))
    (IH : ∀ i, i < n → ∀ x, xs i = x → ∀ (w1 : World) (d l : Nat), IC w0 q w1 l → But q w w1 → d ≤ 1000 → l ≤ 1000 → Calls Tryz.prog 33 #[.agg #[.int .i64 x.k, .bool x.r.s, .slice x.r.A x.r.n x.r.c, .slice x.r.B x.r.m x.r.d, .string x.s, .slice x.K x.n x.c], .int .i64 d, .pointer (some ⟨q, 0, none⟩)] w1 (MB w0 q w1 (ks i) d l))
    (hiff : t.may d l ↔ nb = true ∧ 0 < d ∧ 0 < l ∧ (∀ i, i < n → (ks i).fine ∧ (ks i).deep ≤ d - 1) ∧ 1 + sumN ks n ≤ l) (hnn : t.nodes = 1 + sumN ks n)
    (hI : IC w0 q w l) (hd : d ≤ 1000) (hl : l ≤ 1000) :
    Calls Tryz.prog 33 #[.agg #[.int .i64 v.k, .bool v.r.s, .slice v.r.A v.r.n v.r.c, .slice v.r.B v.r.m v.r.d, .string v.s, .slice v.K v.n v.c], .int .i64 d, .pointer (some ⟨q, 0, none⟩)] w (MB w0 q w t d l) := by
  obtain ⟨vk, vr, vs, vK, vn, vc⟩ := v
  dsimp only at hv hn hc
  subst hv; subst hn; subst hc
  have hq := hI.lt
  have HIFF := Lib.hid hiff
  clear hiff
  by_cases hd0 : d = 0
  · subst hd0
    go_enter Tryz.func33, Tryz.ntmps33
    go_wp2
    go_ret
    exact ⟨false, l, rfl, ⟨fun h => Bool.noConfusion h, fun h => absurd (HIFF.out.1 h).2.1 (by omega)⟩, fun h => Bool.noConfusion h, hI.alloc _, (But.refl _ _).alloc _⟩
  · have i1 : ¬ (d : Int) = 0 := by omega
    have j1 : ((d : Int) == 0) = false := beq_eq_false_iff_ne.2 i1
    obtain ⟨h0, f0⟩ := hI.facts
    by_cases hl0 : l = 0
    · subst hl0
      go_enter Tryz.func33, Tryz.ntmps33
      go_wp2
      go_ret
      exact ⟨false, 0, rfl, ⟨fun h => Bool.noConfusion h, fun h => absurd (HIFF.out.1 h).2.2.1 (by omega)⟩, fun h => Bool.noConfusion h, hI.alloc _, (But.refl _ _).alloc _⟩
    · have i2 : ¬ (l : Int) = 0 := by omega
      have j2 : ((l : Int) == 0) = false := beq_eq_false_iff_ne.2 i2
      clear hd0 hl0
      go_enter Tryz.func33, Tryz.ntmps33
      go_wp2_with fail
      have hIa := hI.alloc (.cells #[.int .i64 vk, .bool vr.s, .slice vr.A vr.n vr.c, .slice vr.B vr.m vr.d, .string vs, .slice (some ⟨b0, 0, none⟩) vc vc] 27)
      have hba := (But.refl q w).alloc (.cells #[.int .i64 vk, .bool vr.s, .slice vr.A vr.n vr.c, .slice vr.B vr.m vr.d, .string vs, .slice (some ⟨b0, 0, none⟩) vc vc] 27)
      have k_e := C6.new w (.int .i64 vk) (.bool vr.s) (.slice vr.A vr.n vr.c) (.slice vr.B vr.m vr.d) (.string vs) (.slice (some ⟨b0, 0, none⟩) vc vc)
      have hz : (w.alloc (.cells #[.int .i64 vk, .bool vr.s, .slice vr.A vr.n vr.c, .slice vr.B vr.m vr.d, .string vs, .slice (some ⟨b0, 0, none⟩) vc vc] 27)).heap.size = w.heap.size + 1 := by simp
      refine (hnode _ ((Below.refl _ _).alloc (Nat.le_refl _) _)).mono ?_
      rintro e w2 ⟨rfl, hb⟩
      replace hIa := hIa.next hb
      replace hba := hba.trans (.of hb)
      replace k_e := k_e.below hb
      have hz2 := hb.size
      clear hb h0 f0 hnode
      obtain ⟨h0, f0⟩ := hIa.facts
      obtain ⟨e0, e1, e2, e3, e4, e5⟩ := k_e.facts
      cases nb with
      | false =>
        go_wp2
        go_ret
        exact ⟨false, l, rfl, ⟨fun h => Bool.noConfusion h, fun h => absurd (HIFF.out.1 h).1 (by decide)⟩, fun h => Bool.noConfusion h, hIa, hba⟩
      | true =>
        have i3 : (0 : Int) < (l : Int) := by omega
        have i4 : (0 : Int) < (d : Int) := by omega
        have i5 : (d : Int) ≤ 1000 := by omega
        have i6 : (l : Int) ≤ 1000 := by omega
        have l1 : 1 ≤ l := by omega
        have d1 : 1 ≤ d := by omega
        go_wp2
        have hI1 := hIa.set (m := l - 1) (v := (l : Int) - 1) (by omega)
        have hb1 := hba.set 0 (.int .i64 ((l : Int) - 1))
        have k_1 := k_e.setOther (g := q) (by omega) 0 (.int .i64 ((l : Int) - 1))
        clear h0 f0 e0 e1 e2 e3 e4 e5 hIa hba k_e i2 j2 i3 i6
        generalize w2.setCell ⟨q, 0, none⟩ (.int .i64 ((l : Int) - 1)) = w3 at *
        go_loopw [30] (fun iv wr => ∃ (i l' : Nat), i ≤ vc ∧ iv = .int .i64 i ∧ IC w0 q wr l' ∧ But q w wr ∧ Hid (∀ j, j < i → (ks j).fine ∧ (ks j).deep ≤ d - 1) ∧ l' + 1 + sumN ks i = l) (fun iv _ => vc - (intOf iv).toNat)
        case atStart => exact ⟨0, l - 1, Nat.zero_le _, rfl, hI1, hb1, fun j h => absurd h (by omega), by show l - 1 + 1 + 0 = l; omega⟩
        case round =>
          obtain ⟨i, l', hi, rfl, hIr, hbr, HJ, hsum⟩ := hrel
          have a0 : (0 : Int) ≤ (i : Int) := by omega
          by_cases hlt : i < vc
          · have a1 : (i : Int) < (vc : Int) := by omega
            have hx6 := (hx i hlt).keep (hbr.block b0 hb0 hbq)
            have HI := IH i hlt
            obtain ⟨x, hxi⟩ : ∃ x, Hid (xs i = x) := ⟨_, rfl⟩
            rw [hxi.out] at hx6
            obtain ⟨y0, y1, y2, y3, y4, y5⟩ := hx6
            go_wp2_with fail
            have hd1 : (d : Int) - 1 = ((d - 1 : Nat) : Int) := by omega
            rw [hd1]
            clear hd1 y0 y1 y2 y3 y4 y5
            refine (HI x hxi.out _ (d - 1) l' (hIr.alloc _) (hbr.alloc _) (by omega) (by omega)).mono ?_
            rintro e w4 ⟨b, l2, rfl, hbi, hbl, hI4, hb4⟩
            have hb5 := (hbr.alloc _).trans hb4
            cases b with
            | false =>
              have hno : Hid (¬ t.may d l) := by
                intro h
                have h5 := HIFF.out.1 h
                have h6 := h5.2.2.2.1 i hlt
                have h7 := sumN_mono ks hlt
                have h8 := h5.2.2.2.2
                have h9 : ¬ (ks i).nodes ≤ l' := fun h => Bool.noConfusion (hbi.2 ⟨h6.1, h6.2, h⟩)
                rw [show sumN ks (i + 1) = sumN ks i + (ks i).nodes from rfl] at h7
                omega
              clear hbi hbl hb4
              go_wp2
              go_ret
              exact ⟨false, l2, rfl, ⟨fun h => Bool.noConfusion h, fun h => absurd h hno.out⟩, fun h => Bool.noConfusion h, hI4, hb5⟩
            | true =>
              have hk := hbi.1 rfl
              have hm := hbl rfl
              have HJ2 : Hid (∀ j, j < i + 1 → (ks j).fine ∧ (ks j).deep ≤ d - 1) := fun j hj => by
                by_cases h : j = i
                · subst h; exact ⟨hk.1, hk.2.1⟩
                · exact HJ.out j (by omega)
              have hs2 : l2 + 1 + sumN ks (i + 1) = l := by unfold sumN; omega
              have a2 : (i : Int) ≤ 2 := by omega
              clear hbi hbl hb4 hk hm
              go_wp2
              go_roundw
              case rel => exact ⟨i + 1, l2, by omega, by go_num, hI4, hb5, HJ2, hs2⟩
              case measure => simp [intOf]; omega
          · have e : i = vc := by omega
            have a1 : ¬ (i : Int) < (vc : Int) := by omega
            subst e
            have HY : Hid (t.may d l) := HIFF.out.2 ⟨by first | rfl | trivial, by omega, by omega, HJ.out, by omega⟩
            have HN : Hid (l' + t.nodes = l) := by show _ = _; omega
            clear hsum hnn
            go_wp2
            go_ret
            exact ⟨true, l', rfl, ⟨fun _ => HY.out, fun _ => rfl⟩, fun _ => HN.out, hIr, hbr⟩
set_option maxHeartbeats 8000000 in
theorem mayBe_leaf {w0 w : World} {q d l : Nat} {v : Ev} (nb : Bool) (t : Ex)
    (hnode : ∀ w', Below w.heap.size w w' → Calls Tryz.prog 55 #[.agg #[.int .i64 v.k, .bool v.r.s, .slice v.r.A v.r.n v.r.c, .slice v.r.B v.r.m v.r.d, .string v.s, .slice v.K v.n v.c]] w' fun e w'' => e = .returned (.bool nb) ∧ Below w'.heap.size w' w'')
    (hv : v.K = none) (hn : v.n = 0) (hc : v.c = 0)
    (hiff : t.may d l ↔ nb = true ∧ 0 < d ∧ 0 < l) (hnn : t.nodes = 1)
    (hI : IC w0 q w l) (hd : d ≤ 1000) (hl : l ≤ 1000) :
    Calls Tryz.prog 33 #[.agg #[.int .i64 v.k, .bool v.r.s, .slice v.r.A v.r.n v.r.c, .slice v.r.B v.r.m v.r.d, .string v.s, .slice v.K v.n v.c], .int .i64 d, .pointer (some ⟨q, 0, none⟩)] w (MB w0 q w t d l) := by
  obtain ⟨vk, vr, vs, vK, vn, vc⟩ := v
  dsimp only at hv hn hc
  subst hv; subst hn; subst hc
  have hq := hI.lt
  have HIFF := Lib.hid hiff
  clear hiff
  by_cases hd0 : d = 0
  · subst hd0
    go_enter Tryz.func33, Tryz.ntmps33
    go_wp2
    go_ret
    exact ⟨false, l, rfl, ⟨fun h => Bool.noConfusion h, fun h => absurd (HIFF.out.1 h).2.1 (by omega)⟩, fun h => Bool.noConfusion h, hI.alloc _, (But.refl _ _).alloc _⟩
  · have i1 : ¬ (d : Int) = 0 := by omega
    have j1 : ((d : Int) == 0) = false := beq_eq_false_iff_ne.2 i1
    obtain ⟨h0, f0⟩ := hI.facts
    by_cases hl0 : l = 0
    · subst hl0
      go_enter Tryz.func33, Tryz.ntmps33
      go_wp2
      go_ret
      exact ⟨false, 0, rfl, ⟨fun h => Bool.noConfusion h, fun h => absurd (HIFF.out.1 h).2.2 (by omega)⟩, fun h => Bool.noConfusion h, hI.alloc _, (But.refl _ _).alloc _⟩
    · have i2 : ¬ (l : Int) = 0 := by omega
      have j2 : ((l : Int) == 0) = false := beq_eq_false_iff_ne.2 i2
      clear hd0 hl0
      go_enter Tryz.func33, Tryz.ntmps33
      go_wp2_with fail
      have hIa := hI.alloc (.cells #[.int .i64 vk, .bool vr.s, .slice vr.A vr.n vr.c, .slice vr.B vr.m vr.d, .string vs, .slice none 0 0] 27)
      have hba := (But.refl q w).alloc (.cells #[.int .i64 vk, .bool vr.s, .slice vr.A vr.n vr.c, .slice vr.B vr.m vr.d, .string vs, .slice none 0 0] 27)
      have k_e := C6.new w (.int .i64 vk) (.bool vr.s) (.slice vr.A vr.n vr.c) (.slice vr.B vr.m vr.d) (.string vs) (.slice none 0 0)
      have hz : (w.alloc (.cells #[.int .i64 vk, .bool vr.s, .slice vr.A vr.n vr.c, .slice vr.B vr.m vr.d, .string vs, .slice none 0 0] 27)).heap.size = w.heap.size + 1 := by simp
      refine (hnode _ ((Below.refl _ _).alloc (Nat.le_refl _) _)).mono ?_
      rintro e w2 ⟨rfl, hb⟩
      replace hIa := hIa.next hb
      replace hba := hba.trans (.of hb)
      replace k_e := k_e.below hb
      have hz2 := hb.size
      clear hb h0 f0 hnode
      obtain ⟨h0, f0⟩ := hIa.facts
      obtain ⟨e0, e1, e2, e3, e4, e5⟩ := k_e.facts
      cases nb with
      | false =>
        go_wp2
        go_ret
        exact ⟨false, l, rfl, ⟨fun h => Bool.noConfusion h, fun h => absurd (HIFF.out.1 h).1 (by decide)⟩, fun h => Bool.noConfusion h, hIa, hba⟩
      | true =>
        have i3 : (0 : Int) < (l : Int) := by omega
        have i4 : (0 : Int) < (d : Int) := by omega
        have i5 : (d : Int) ≤ 1000 := by omega
        have i6 : (l : Int) ≤ 1000 := by omega
        have l1 : 1 ≤ l := by omega
        have d1 : 1 ≤ d := by omega
        go_wp2
        have hI1 := hIa.set (m := l - 1) (v := (l : Int) - 1) (by omega)
        have hb1 := hba.set 0 (.int .i64 ((l : Int) - 1))
        have k_1 := k_e.setOther (g := q) (by omega) 0 (.int .i64 ((l : Int) - 1))
        clear h0 f0 e0 e1 e2 e3 e4 e5 hIa hba k_e i2 j2 i3 i6
        generalize w2.setCell ⟨q, 0, none⟩ (.int .i64 ((l : Int) - 1)) = w3 at *
        go_loopw [30] (fun iv wr => iv = .int .i64 0 ∧ IC w0 q wr (l - 1) ∧ But q w wr) (fun _ _ => 0)
        case atStart => exact ⟨rfl, hI1, hb1⟩
        case round =>
          obtain ⟨rfl, hIr, hbr⟩ := hrel
          have HY : Hid (t.may d l) := HIFF.out.2 ⟨by first | rfl | trivial, by omega, by omega⟩
          have HN : Hid (l - 1 + t.nodes = l) := by show _ = _; omega
          clear hnn
          go_wp2
          go_ret
          exact ⟨true, l - 1, rfl, ⟨fun _ => HY.out, fun _ => rfl⟩, fun _ => HN.out, hIr, hbr⟩

theorem at6_two {w : World} {b0 : Nat} {x y : Ev} (h : w.heap[b0]? = some (.cells #[.int .i64 x.k, .bool x.r.s, .slice x.r.A x.r.n x.r.c, .slice x.r.B x.r.m x.r.d, .string x.s, .slice x.K x.n x.c, .int .i64 y.k, .bool y.r.s, .slice y.r.A y.r.n y.r.c, .slice y.r.B y.r.m y.r.d, .string y.s, .slice y.K y.n y.c] 27 (0, 0))) : At6 w b0 0 x ∧ At6 w b0 6 y := by
  refine ⟨⟨?_, ?_, ?_, ?_, ?_, ?_⟩, ⟨?_, ?_, ?_, ?_, ?_, ?_⟩⟩ <;> simp [World.cell?, h]
theorem at6_one {w : World} {b0 : Nat} {x : Ev} (h : w.heap[b0]? = some (.cells #[.int .i64 x.k, .bool x.r.s, .slice x.r.A x.r.n x.r.c, .slice x.r.B x.r.m x.r.d, .string x.s, .slice x.K x.n x.c] 27 (0, 0))) : At6 w b0 0 x := by
  refine ⟨?_, ?_, ?_, ?_, ?_, ?_⟩ <;> simp [World.cell?, h]
/-- Two by two. -/
def two_ {α : Type} (x y : α) : Nat → α | 0 => x | _ + 1 => y
theorem mayBe_c {w0 : World} {q : Nat} (ht0 : Tb w0) : ∀ (t : Ex), t.wf → ∀ (v : Ev) (w : World) (P : Nat → Prop) (d l : Nat), Tw w P t v → (∀ b, P b → b ≠ q) → IC w0 q w l → d ≤ 1000 → l ≤ 1000 →
    Calls Tryz.prog 33 #[.agg #[.int .i64 v.k, .bool v.r.s, .slice v.r.A v.r.n v.r.c, .slice v.r.B v.r.m v.r.d, .string v.s, .slice v.K v.n v.c], .int .i64 d, .pointer (some ⟨q, 0, none⟩)] w (MB w0 q w t d l) := by
  intro t
  induction t with
  | bad =>
    intro _ v w P d l hv hP hI hd hl
    subst hv
    exact mayBe_leaf false .bad (fun w' _ => isNode_bad w') rfl rfl rfl ⟨fun h => absurd h.1 (fun h => h), fun h => Bool.noConfusion h.1⟩ rfl hI hd hl
  | num r =>
    intro _ v w P d l hv hP hI hd hl
    obtain ⟨hv, hr, hrp⟩ := hv
    obtain ⟨b, hb⟩ : ∃ b : Bool, b = true ↔ NumOk r := by
      by_cases h : NumOk r
      · exact ⟨true, fun _ => h, fun _ => rfl⟩
      · exact ⟨false, fun h => Bool.noConfusion h, fun h1 => absurd h1 h⟩
    generalize v.r = y at *
    subst hv
    refine mayBe_leaf b (.num r) (fun w' hw => isNode_num y r b 0 hb w' (hr.below hw) ((ht0.below hI.below).below (hw.mono ?_))) rfl rfl rfl ?_ rfl hI hd hl
    · exact Nat.le_refl _
    · rw [hb]
      exact ⟨fun h => ⟨h.1, h.2.1, h.2.2⟩, fun h => ⟨h.1, h.2.1, h.2.2⟩⟩
  | nm s =>
    intro _ v w P d l hv hP hI hd hl
    have hv' : v = ⟨2, Rz, s, none, 0, 0⟩ := hv
    subst hv'
    exact mayBe_leaf (isName s) (.nm s) (fun w' _ => isNode_nm s w') rfl rfl rfl ⟨fun h => ⟨h.1, h.2.1, h.2.2⟩, fun h => ⟨h.1, h.2.1, h.2.2⟩⟩ rfl hI hd hl
  | bin k a b iha ihb =>
    intro hw v w P d l hv hP hI hd hl
    obtain ⟨hk, wa, wb⟩ := hw
    obtain ⟨b0, x, y, rfl, hp, hb0, hblk, ha, hb⟩ := hv
    obtain ⟨h6a, h6b⟩ := at6_two hblk
    refine mayBe_step (b0 := b0) (n := 2) true (.bin k a b) (two_ x y) (two_ a b) ?_ rfl rfl rfl (by omega) (by omega) (hP _ hp) hb0 ?_ ?_ ?_ ?_ hI hd hl
    · intro w' _
      rcases hk with rfl | rfl | rfl | rfl
      · exact isNode_bin3 _ w'
      · exact isNode_bin4 _ w'
      · exact isNode_bin5 _ w'
      · exact isNode_bin6 _ w'
    · intro i hi
      rcases i with _ | _ | i
      · exact h6a
      · exact h6b
      · omega
    · intro i hi z hz w1 d l hI1 hb1 hd hl
      rcases i with _ | _ | i
      · subst hz; exact iha wa x w1 P d l (ha.but hb1 hP) hP hI1 hd hl
      · subst hz; exact ihb wb y w1 P d l (hb.but hb1 hP) hP hI1 hd hl
      · omega
    · show (a.fine ∧ b.fine) ∧ (max a.deep b.deep + 1 ≤ d) ∧ 1 + a.nodes + b.nodes ≤ l ↔ _
      have s2 : sumN (two_ a b) 2 = 0 + a.nodes + b.nodes := rfl
      have n1 := a.nodes_pos
      rw [s2]
      constructor
      · rintro ⟨⟨h1, h2⟩, h3, h4⟩
        refine ⟨rfl, by omega, by omega, fun i hi => ?_, by omega⟩
        rcases i with _ | _ | i
        · exact ⟨h1, by show a.deep ≤ d - 1; omega⟩
        · exact ⟨h2, by show b.deep ≤ d - 1; omega⟩
        · omega
      · rintro ⟨_, h1, h2, h3, h4⟩
        have e0 : a.fine ∧ a.deep ≤ d - 1 := h3 0 (by omega)
        have e1 : b.fine ∧ b.deep ≤ d - 1 := h3 1 (by omega)
        exact ⟨⟨e0.1, e1.1⟩, by have := e0.2; have := e1.2; omega, by omega⟩
    · show 1 + a.nodes + b.nodes = 1 + (0 + a.nodes + b.nodes)
      omega
  | neg a iha =>
    intro hw v w P d l hv hP hI hd hl
    obtain ⟨b0, x, rfl, hp, hb0, hblk, ha⟩ := hv
    have h6a := at6_one hblk
    refine mayBe_step (b0 := b0) (n := 1) true (.neg a) (fun _ => x) (fun _ => a) ?_ rfl rfl rfl (by omega) (by omega) (hP _ hp) hb0 ?_ ?_ ?_ ?_ hI hd hl
    · exact fun w' _ => isNode_neg _ w'
    · intro i hi
      rcases i with _ | i
      · exact h6a
      · omega
    · intro i hi z hz w1 d l hI1 hb1 hd hl
      subst hz; exact iha hw x w1 P d l (ha.but hb1 hP) hP hI1 hd hl
    · show a.fine ∧ (a.deep + 1 ≤ d) ∧ 1 + a.nodes ≤ l ↔ _
      have s2 : sumN (fun _ => a) 1 = 0 + a.nodes := rfl
      have n1 := a.nodes_pos
      rw [s2]
      constructor
      · rintro ⟨h1, h3, h4⟩
        refine ⟨rfl, by omega, by omega, fun i hi => ⟨h1, by show a.deep ≤ d - 1; omega⟩, by omega⟩
      · rintro ⟨_, h1, h2, h3, h4⟩
        have e0 : a.fine ∧ a.deep ≤ d - 1 := h3 0 (by omega)
        exact ⟨e0.1, by have := e0.2; omega, by omega⟩
    · show 1 + a.nodes = 1 + (0 + a.nodes)
      omega
set_option maxHeartbeats 800000 in
theorem eIs_c {w : World} {P : Nat → Prop} {t : Ex} {v : Ev} (b : Bool) (hb : b = true ↔ t.may 32 256) (hw : t.wf) (hv : Tw w P t v) (ht : Tb w) :
    Calls Tryz.prog 19 #[.agg #[.int .i64 v.k, .bool v.r.s, .slice v.r.A v.r.n v.r.c, .slice v.r.B v.r.m v.r.d, .string v.s, .slice v.K v.n v.c]] w fun e w' => e = .returned (.bool b) ∧ Below w.heap.size w w' := by
  have hz : (w.alloc (.cells #[.int .i64 v.k, .bool v.r.s, .slice v.r.A v.r.n v.r.c, .slice v.r.B v.r.m v.r.d, .string v.s, .slice v.K v.n v.c] 27)).heap.size = w.heap.size + 1 := by simp
  have hI : IC w (w.heap.size + 1) ((w.alloc (.cells #[.int .i64 v.k, .bool v.r.s, .slice v.r.A v.r.n v.r.c, .slice v.r.B v.r.m v.r.d, .string v.s, .slice v.K v.n v.c] 27)).alloc (.cells #[.int .i64 256] 3)) 256 :=
    ⟨by omega, ((Below.refl _ _).alloc (Nat.le_refl _) _).alloc (by omega) _, by rw [← hz]; exact heap_alloc_new _ _⟩
  have hv2 := ((hv.lt.wide (Q := fun b => b < w.heap.size) (fun b h => h.2)).alloc (.cells #[.int .i64 v.k, .bool v.r.s, .slice v.r.A v.r.n v.r.c, .slice v.r.B v.r.m v.r.d, .string v.s, .slice v.K v.n v.c] 27)).alloc (.cells #[.int .i64 256] 3)
  have hb0 := (((But.refl (w.heap.size + 1) w).alloc (.cells #[.int .i64 v.k, .bool v.r.s, .slice v.r.A v.r.n v.r.c, .slice v.r.B v.r.m v.r.d, .string v.s, .slice v.K v.n v.c] 27)).alloc (.cells #[.int .i64 256] 3))
  go_enter Tryz.func19, Tryz.ntmps19
  go_wp2_with fail
  refine (mayBe_c ht t hw v _ _ 32 256 hv2 (fun b h => by omega) hI (by omega) (by omega)).mono ?_
  rintro e w' ⟨b', l', rfl, hbi, _, _, hb1⟩
  have e1 : b' = b := by rw [Bool.eq_iff_iff, hbi, hb]
  subst e1
  go_wp2
  go_ret
  exact ⟨rfl, (hb0.trans hb1).new (by omega)⟩
end Go.Proofs.YtcmkgoikmleanaaGreatDoor

namespace Go.Proofs.YtcmkgoikmleanaaGreatDoor
set_option maxRecDepth 20000
open Go.RowKit

theorem assert_fault (v : Value) (w : World) : (Instr.typeAssert (.iface 62 v) 20 62 true).run Tryz.prog w = .ok (.tuple #[v, .bool true]) w := by
  first
  | rfl
  | kernel_rfl
  | simp [go_sem, Tryz.underlying62]
set_option maxHeartbeats 800000 in
theorem told_c (a c : Nat) (w : World) : Calls Tryz.prog 17 #[.iface 62 (.agg #[.int .i64 a, .int .i64 c])] w fun e w' => e = .returned (.tuple #[.int .i64 a, .int .i64 c]) ∧ Below w.heap.size w w' := by
  have hb := (Below.refl w.heap.size w).alloc (Nat.le_refl _) (.cells #[.int .i64 a, .int .i64 c] 62)
  have hta := assert_fault
  go_enter Tryz.func17, Tryz.ntmps17
  go_wp2
  go_quiet (fail)
  go_wp2
  go_ret2
  exact ⟨rfl, hb.trans ((below_drewN' _ _ _).mono hb.size)⟩

/-- A block of one cell. -/
def C1 (w : World) (b : Nat) (x : Value) (T : TypeId) : Prop := w.heap[b]? = some (.cells #[x] T (0, 0))
section
variable {w w' : World} {b : Nat} {x : Value} {T : TypeId}
theorem C1.lt (h : C1 w b x T) : b < w.heap.size := by
  rcases Nat.lt_or_ge b w.heap.size with h1 | h1
  · exact h1
  · have : w.heap[b]? = none := Array.getElem?_eq_none h1
    rw [C1, this] at h; cases h
theorem C1.below (h : C1 w b x T) (hb : Below w.heap.size w w') : C1 w' b x T := (hb.block b h.lt).trans h
theorem C1.but {g : Nat} (h : C1 w b x T) (hb : But g w w') (hg : b ≠ g) : C1 w' b x T := (hb.block b h.lt hg).trans h
theorem C1.newAt (x : Value) (T : TypeId) (hb : b = w.heap.size) : C1 (w.alloc (.cells #[x] T)) b x T := by subst hb; exact heap_alloc_new w _
theorem C1.alloc (h : C1 w b x T) (o : Obj) : C1 (w.alloc o) b x T := h.below ((Below.refl _ _).alloc (Nat.le_refl _) o)
theorem C1.facts (h : C1 w b x T) : w.cell? ⟨b, 0, none⟩ = some x ∧ w.frozen? ⟨b, 0, none⟩ = false := by
  have h' : w.heap[b]? = some (.cells #[x] T (0, 0)) := h
  refine ⟨?_, ?_⟩ <;> simp [World.cell?, World.frozen?, h']
theorem C1.set (h : C1 w b x T) (y : Value) : C1 (w.setCell ⟨b, 0, none⟩ y) b y T := by
  have h' : w.heap[b]? = some (.cells #[x] T (0, 0)) := h
  show (w.heap.modify b _)[b]? = _
  rw [Array.getElem?_modify, if_pos rfl, h']; rfl
end
theorem catch_panicking (p q : Nat) (a c : Nat) (x y : Value) (w : World) (hne : p ≠ q) (hc : C1 w p x 3) (hc2 : C1 w q y 30) :
    CallsD Tryz.prog 16 #[.pointer (some ⟨p, 0, none⟩), .pointer (some ⟨q, 0, none⟩)] (.panicking [{ v := .iface 62 (.agg #[.int .i64 a, .int .i64 c]), recovered := false }]) w fun e u' w' =>
      e = .returned (.tuple #[]) ∧ u' = .panicking [{ v := .iface 62 (.agg #[.int .i64 a, .int .i64 c]), recovered := true }] ∧ ∃ w1, Below w.heap.size w w1 ∧ w' = (w1.setCell ⟨p, 0, none⟩ (.int .i64 a)).setCell ⟨q, 0, none⟩ (.int .i64 c) := by
  refine callsD_of_wpS Tryz.func16 rfl fun c₀ cs hu => ?_
  apply wpS_seq
  apply wpS_region
  simp [wpOpsS, go_sem, recoverD, hu, Tryz.ntmps16, Exit.thenS]
  refine wpS_of_wp ?_
  change Code.wp _ _ _ { tmps := #[.pointer (some ⟨p, 0, none⟩), .pointer (some ⟨q, 0, none⟩), .iface 62 (.agg #[.int .i64 a, .int .i64 c]), .iface 62 (.agg #[.int .i64 a, .int .i64 c]), undef, undef, undef, undef, undef, undef, undef], defers := [] } _
  go_wp2_with fail
  refine (told_c a c _).mono ?_
  rintro e w1 ⟨rfl, hb⟩
  replace hc := hc.below hb
  replace hc2 := hc2.below hb
  obtain ⟨h0, f0⟩ := hc.facts
  obtain ⟨h1, f1⟩ := hc2.facts
  go_wp2
  simp [bodyPostS, results, Tryz.results16]
  exact ⟨w1, hb, rfl⟩
theorem catch_idle (p q : Nat) (w : World) :
    CallsD Tryz.prog 16 #[.pointer (some ⟨p, 0, none⟩), .pointer (some ⟨q, 0, none⟩)] .returning w fun e u' w' => e = .returned (.tuple #[]) ∧ u' = .returning ∧ w' = w := by
  refine callsD_of_wpS Tryz.func16 rfl fun c₀ cs hu => ?_
  apply wpS_seq
  apply wpS_region
  simp [wpOpsS, go_sem, recoverD, hu, Tryz.ntmps16, Exit.thenS]
  refine wpS_of_wp ?_
  change Code.wp _ _ _ { tmps := #[.pointer (some ⟨p, 0, none⟩), .pointer (some ⟨q, 0, none⟩), .nilIface, .nilIface, undef, undef, undef, undef, undef, undef, undef], defers := [] } _
  go_wp2
  cases c₀
  simp_all [bodyPostS, results, Tryz.results16]
end Go.Proofs.YtcmkgoikmleanaaGreatDoor

namespace Go.Proofs.YtcmkgoikmleanaaGreatDoor
set_option maxRecDepth 20000
open Go.RowKit

/-- What Parse answers. -/
inductive FR where
  | err (a c : Nat)
  | ok (t : Ex)
noncomputable def fin1 : PR → FR
  | .err a c => .err a c
  | .ok t _ _ _ _ => open Classical in if t.may 32 256 then .ok t else .err 0 3
theorem fin1_yes {t u : Ex} {p n : Nat} {lg : Bool} (h : t.may 32 256) : fin1 (.ok t u p n lg) = .ok t := if_pos h
theorem fin1_no {t u : Ex} {p n : Nat} {lg : Bool} (h : ¬ t.may 32 256) : fin1 (.ok t u p n lg) = .err 0 3 := if_neg h
noncomputable def fin (S : ByteArray) : FR := fin1 (parse tv S)
def FP (w : World) : FR → Ending → World → Prop
  | .err a c, e, w' => e = .returned (.tuple #[.agg #[.int .i64 0, .bool false, .slice none 0 0, .slice none 0 0, .string ⟨#[]⟩, .slice none 0 0], .int .i64 a, .int .i64 c]) ∧ Below w.heap.size w w'
  | .ok t, e, w' => ∃ v : Ev, e = .returned (.tuple #[.agg #[.int .i64 v.k, .bool v.r.s, .slice v.r.A v.r.n v.r.c, .slice v.r.B v.r.m v.r.d, .string v.s, .slice v.K v.n v.c], .int .i64 0, .int .i64 0]) ∧ Tw w' (fun b => w.heap.size ≤ b) t v ∧ Below w.heap.size w w'

set_option maxHeartbeats 4000000 in
theorem eParse_c (S : ByteArray) (w : World) (hs : S.size ≤ 100000) (hm : Mx w) (ht : Tb w) :
    Calls Tryz.prog 8 #[.string S] w (FP w (fin S)) := by
  have hmf : ∀ (fn : Fn) (first cap : Array Value) (w : World), (Instr.makeFunc fn first cap).run Tryz.prog w = .ok (.func fn first cap) w := fun _ _ _ _ => rfl
  have k_e := ((C6.new w (.int .i64 0) (.bool false) (.slice none 0 0) (.slice none 0 0) (.string ⟨#[]⟩) (.slice none 0 0)).alloc (.cells #[.int .i64 0] 3)).alloc (.cells #[.int .i64 0] 30)
  have k_a := (C1.newAt (w := w.alloc (.cells #[.int .i64 0, .bool false, .slice none 0 0, .slice none 0 0, .string ⟨#[]⟩, .slice none 0 0] 27)) (b := w.heap.size + 1) (.int .i64 0) 3 (by simp)).alloc (.cells #[.int .i64 0] 30)
  have k_c := C1.newAt (w := (w.alloc (.cells #[.int .i64 0, .bool false, .slice none 0 0, .slice none 0 0, .string ⟨#[]⟩, .slice none 0 0] 27)).alloc (.cells #[.int .i64 0] 3)) (b := w.heap.size + 1 + 1) (.int .i64 0) 30 (by simp)
  have hb0 := (((Below.refl w.heap.size w).alloc (Nat.le_refl _) (.cells #[.int .i64 0, .bool false, .slice none 0 0, .slice none 0 0, .string ⟨#[]⟩, .slice none 0 0] 27)).alloc (by simp) (.cells #[.int .i64 0] 3)).alloc (by simp; omega) (.cells #[.int .i64 0] 30)
  have hz : (((w.alloc (.cells #[.int .i64 0, .bool false, .slice none 0 0, .slice none 0 0, .string ⟨#[]⟩, .slice none 0 0] 27)).alloc (.cells #[.int .i64 0] 3)).alloc (.cells #[.int .i64 0] 30)).heap.size = w.heap.size + 3 := by simp
  have HF : Hid (fin S = fin1 (parse tv S)) := rfl
  have HW := wf_parse S
  have ht0 := ht
  replace hm := hm.below hb0
  clear ht
  go_enter_defers Tryz.func8, Tryz.ntmps8
  go_wp2_with fail
  have HC := readAll_c S _ hs hm
  refine HC.mono ?_
  clear HC
  generalize ((w.alloc (.cells #[.int .i64 0, .bool false, .slice none 0 0, .slice none 0 0, .string ⟨#[]⟩, .slice none 0 0] 27)).alloc (.cells #[.int .i64 0] 3)).alloc (.cells #[.int .i64 0] 30) = wa at *
  generalize parse tv S = r0 at *
  cases r0 with
  | err a c =>
    rintro e w1 ⟨rfl, hb⟩
    replace k_e := k_e.below hb
    replace k_a := k_a.below hb
    replace k_c := k_c.below hb
    have hz1 := hb.size
    replace hb0 := hb0.trans (hb.mono hb0.size)
    have hres : Hid (fin S = .err a c) := HF
    clear HF hb
    generalize fin S = RES at *
    refine leaves_cons (f := 16) (args := #[.pointer (some ⟨w.heap.size + 1, 0, none⟩), .pointer (some ⟨w.heap.size + 1 + 1, 0, none⟩)]) (by simp) (by simp [go_sem]) ?_
    refine (catch_panicking (w.heap.size + 1) (w.heap.size + 1 + 1) a c _ _ _ (by omega) k_a k_c).mono ?_
    rintro e u' w'' ⟨rfl, rfl, w2, hb2, rfl⟩
    replace k_e := (k_e.below hb2)
    replace k_a := (k_a.below hb2)
    replace k_c := (k_c.below hb2)
    replace hb0 := hb0.trans (hb2.mono hb0.size)
    have k_e2 := (k_e.setOther (g := w.heap.size + 1) (by omega) 0 (.int .i64 a)).setOther (g := w.heap.size + 1 + 1) (by omega) 0 (.int .i64 c)
    have k_a2 := (k_a.set (.int .i64 a)).but ((But.refl (w.heap.size + 1 + 1) _).set 0 (.int .i64 c)) (by omega)
    have k_c2 := (k_c.but ((But.refl (w.heap.size + 1) _).set 0 (.int .i64 a)) (by omega)).set (.int .i64 c)
    have hb3 : Below w.heap.size w ((w2.setCell ⟨w.heap.size + 1, 0, none⟩ (.int .i64 a)).setCell ⟨w.heap.size + 1 + 1, 0, none⟩ (.int .i64 c)) :=
      (hb0.trans (((But.refl (w.heap.size + 1) w2).set 0 _).below (by omega) hb0.size)).trans (((But.refl (w.heap.size + 1 + 1) _).set 0 _).below (by omega) (by simpa using hb0.size))
    obtain ⟨e0, e1, e2, e3, e4, e5⟩ := k_e2.facts
    obtain ⟨a0, _⟩ := k_a2.facts
    obtain ⟨c0, _⟩ := k_c2.facts
    generalize (w2.setCell ⟨w.heap.size + 1, 0, none⟩ (.int .i64 a)).setCell ⟨w.heap.size + 1 + 1, 0, none⟩ (.int .i64 c) = w3 at *
    have HB3 := Lib.hid hb3
    clear hb3 hb0 hb2 hmf
    simp [Leaves, settle, results, Tryz.results8, go_sem, e0, e1, e2, e3, e4, e5, a0, c0]
    rw [hres.out]
    exact ⟨rfl, HB3.out⟩
  | ok t u p n lg =>
    rintro e w1 ⟨v, rfl, htw, hb⟩
    have HRES : Hid (fin S = fin1 (.ok t u p n lg)) := HF
    replace k_a := (k_a.below hb).but (put6_but (b := w.heap.size) (.int .i64 v.k) (.bool v.r.s) (.slice v.r.A v.r.n v.r.c) (.slice v.r.B v.r.m v.r.d) (.string v.s) (.slice v.K v.n v.c)) (by omega)
    replace k_c := (k_c.below hb).but (put6_but (b := w.heap.size) (.int .i64 v.k) (.bool v.r.s) (.slice v.r.A v.r.n v.r.c) (.slice v.r.B v.r.m v.r.d) (.string v.s) (.slice v.K v.n v.c)) (by omega)
    have hz1 := hb.size
    have hbp := (put6_but (w := w1) (b := w.heap.size) (.int .i64 v.k) (.bool v.r.s) (.slice v.r.A v.r.n v.r.c) (.slice v.r.B v.r.m v.r.d) (.string v.s) (.slice v.K v.n v.c)).below (B := w.heap.size) (Nat.le_refl _) (by omega)
    replace hb0 := (hb0.trans (hb.mono hb0.size)).trans hbp
    replace k_e := k_e.below hb
    obtain ⟨s0, s1, s2, s3, s4, s5⟩ := k_e.facts
    obtain ⟨S0, S1, S2, S3, S4, S5⟩ := k_e.thaw
    replace k_e := k_e.put (.int .i64 v.k) (.bool v.r.s) (.slice v.r.A v.r.n v.r.c) (.slice v.r.B v.r.m v.r.d) (.string v.s) (.slice v.K v.n v.c)
    replace htw := (htw.wide (Q := fun b => w.heap.size + 3 ≤ b) (fun b h => by omega)).but (put6_but (b := w.heap.size) (.int .i64 v.k) (.bool v.r.s) (.slice v.r.A v.r.n v.r.c) (.slice v.r.B v.r.m v.r.d) (.string v.s) (.slice v.K v.n v.c)) (fun b h => by omega)
    have htb := ht0.below hb0
    have hzp : (put6 w1 w.heap.size (.int .i64 v.k) (.bool v.r.s) (.slice v.r.A v.r.n v.r.c) (.slice v.r.B v.r.m v.r.d) (.string v.s) (.slice v.K v.n v.c)).heap.size = w1.heap.size := by simp
    clear HF hb hbp
    generalize fin S = RES at *
    obtain ⟨b, hbi⟩ : ∃ b : Bool, b = true ↔ t.may 32 256 := by
      by_cases h : t.may 32 256
      · exact ⟨true, fun _ => h, fun _ => rfl⟩
      · exact ⟨false, fun h => Bool.noConfusion h, fun h1 => absurd h1 h⟩
    have HBI := Lib.hid hbi
    have HWF := Lib.hid HW.1
    clear hbi HW
    obtain ⟨e0, e1, e2, e3, e4, e5⟩ := k_e.facts
    go_wp2_with fail
    refine (eIs_c b HBI.out HWF.out htw htb).mono ?_
    rintro e w3 ⟨rfl, hb⟩
    replace hb0 := hb0.trans (hb.mono hb0.size)
    replace k_e := k_e.below hb
    replace k_a := k_a.below hb
    replace k_c := k_c.below hb
    replace htw := htw.below hb
    clear hb s0 s1 s2 s3 s4 s5 S0 S1 S2 S3 S4 S5 e0 e1 e2 e3 e4 e5 htb hzp
    cases b with
    | true =>
      have hres : Hid (RES = .ok t) := by show _ = _; rw [HRES.out]; exact fin1_yes (HBI.out.1 rfl)
      clear HRES HBI
      obtain ⟨e0, e1, e2, e3, e4, e5⟩ := k_e.facts
      obtain ⟨E0, E1, E2, E3, E4, E5⟩ := k_e.thaw
      obtain ⟨a0, A0⟩ := k_a.facts
      obtain ⟨c0, C0⟩ := k_c.facts
      go_wp2
      clear e0 e1 e2 e3 e4 e5 E0 E1 E2 E3 E4 E5 a0 A0 c0 C0
      have k_e2 := ((k_e.put (.int .i64 v.k) (.bool v.r.s) (.slice v.r.A v.r.n v.r.c) (.slice v.r.B v.r.m v.r.d) (.string v.s) (.slice v.K v.n v.c)).setOther (g := w.heap.size + 1) (by omega) 0 (.int .i64 0)).setOther (g := w.heap.size + 1 + 1) (by omega) 0 (.int .i64 0)
      have k_a2 := ((k_a.but (put6_but (b := w.heap.size) (.int .i64 v.k) (.bool v.r.s) (.slice v.r.A v.r.n v.r.c) (.slice v.r.B v.r.m v.r.d) (.string v.s) (.slice v.K v.n v.c)) (by omega)).set (.int .i64 0)).but ((But.refl (w.heap.size + 1 + 1) _).set 0 (.int .i64 0)) (by omega)
      have k_c2 := ((k_c.but (put6_but (b := w.heap.size) (.int .i64 v.k) (.bool v.r.s) (.slice v.r.A v.r.n v.r.c) (.slice v.r.B v.r.m v.r.d) (.string v.s) (.slice v.K v.n v.c)) (by omega)).but ((But.refl (w.heap.size + 1) _).set 0 (.int .i64 0)) (by omega)).set (.int .i64 0)
      have hbx := ((put6_but (w := w3) (b := w.heap.size) (.int .i64 v.k) (.bool v.r.s) (.slice v.r.A v.r.n v.r.c) (.slice v.r.B v.r.m v.r.d) (.string v.s) (.slice v.K v.n v.c)).below (B := w.heap.size) (Nat.le_refl _) hb0.size).trans ((((But.refl (w.heap.size + 1) _).set 0 (.int .i64 0)).below (by omega) (by simpa using hb0.size)).trans (((But.refl (w.heap.size + 1 + 1) _).set 0 (.int .i64 0)).below (by omega) (by simpa using hb0.size)))
      replace hb0 := hb0.trans hbx
      obtain ⟨e0, e1, e2, e3, e4, e5⟩ := k_e2.facts
      obtain ⟨a0, A0⟩ := k_a2.facts
      obtain ⟨c0, C0⟩ := k_c2.facts
      refine leaves_cons (f := 16) (args := #[.pointer (some ⟨w.heap.size + 1, 0, none⟩), .pointer (some ⟨w.heap.size + 1 + 1, 0, none⟩)]) (by simp) (by simp [go_sem]) ?_
      refine (catch_idle (w.heap.size + 1) (w.heap.size + 1 + 1) _).mono ?_
      rintro e u' w'' ⟨rfl, rfl, rfl⟩
      have htx : Tw ((((put6 w3 w.heap.size (.int .i64 v.k) (.bool v.r.s) (.slice v.r.A v.r.n v.r.c) (.slice v.r.B v.r.m v.r.d) (.string v.s) (.slice v.K v.n v.c)).setCell ⟨w.heap.size + 1, 0, none⟩ (.int .i64 0))).setCell ⟨w.heap.size + 1 + 1, 0, none⟩ (.int .i64 0)) (fun b => w.heap.size ≤ b) t v := ((((htw.but (put6_but (b := w.heap.size) (.int .i64 v.k) (.bool v.r.s) (.slice v.r.A v.r.n v.r.c) (.slice v.r.B v.r.m v.r.d) (.string v.s) (.slice v.K v.n v.c)) (fun b h => by omega)).but ((But.refl (w.heap.size + 1) _).set 0 (.int .i64 0)) (fun b h => by omega)).but ((But.refl (w.heap.size + 1 + 1) _).set 0 (.int .i64 0)) (fun b h => by omega))).wide (fun b h => by omega)
      have HB := Lib.hid hb0
      have HT := Lib.hid htx
      clear hb0 htx hbx k_e k_a k_c k_e2 k_a2 k_c2 hmf
      generalize ((put6 w3 w.heap.size (.int .i64 v.k) (.bool v.r.s) (.slice v.r.A v.r.n v.r.c) (.slice v.r.B v.r.m v.r.d) (.string v.s) (.slice v.K v.n v.c)).setCell ⟨w.heap.size + 1, 0, none⟩ (.int .i64 0)).setCell ⟨w.heap.size + 1 + 1, 0, none⟩ (.int .i64 0) = w5 at *
      simp [Leaves, settle, results, Tryz.results8, go_sem, e0, e1, e2, e3, e4, e5, a0, c0]
      rw [hres.out]
      exact ⟨v, rfl, HT.out, HB.out⟩
    | false =>
      have hres : Hid (RES = .err 0 3) := by show _ = _; rw [HRES.out]; exact fin1_no (fun h => Bool.noConfusion (HBI.out.2 h))
      clear HRES HBI
      obtain ⟨e0, e1, e2, e3, e4, e5⟩ := k_e.facts
      obtain ⟨E0, E1, E2, E3, E4, E5⟩ := k_e.thaw
      obtain ⟨a0, A0⟩ := k_a.facts
      obtain ⟨c0, C0⟩ := k_c.facts
      go_wp2
      clear e0 e1 e2 e3 e4 e5 E0 E1 E2 E3 E4 E5 a0 A0 c0 C0
      have k_e2 := ((k_e.put (.int .i64 0) (.bool false) (.slice none 0 0) (.slice none 0 0) (.string ⟨#[]⟩) (.slice none 0 0)).setOther (g := w.heap.size + 1) (by omega) 0 (.int .i64 0)).setOther (g := w.heap.size + 1 + 1) (by omega) 0 (.int .i64 3)
      have k_a2 := ((k_a.but (put6_but (b := w.heap.size) (.int .i64 0) (.bool false) (.slice none 0 0) (.slice none 0 0) (.string ⟨#[]⟩) (.slice none 0 0)) (by omega)).set (.int .i64 0)).but ((But.refl (w.heap.size + 1 + 1) _).set 0 (.int .i64 3)) (by omega)
      have k_c2 := ((k_c.but (put6_but (b := w.heap.size) (.int .i64 0) (.bool false) (.slice none 0 0) (.slice none 0 0) (.string ⟨#[]⟩) (.slice none 0 0)) (by omega)).but ((But.refl (w.heap.size + 1) _).set 0 (.int .i64 0)) (by omega)).set (.int .i64 3)
      have hbx := ((put6_but (w := w3) (b := w.heap.size) (.int .i64 0) (.bool false) (.slice none 0 0) (.slice none 0 0) (.string ⟨#[]⟩) (.slice none 0 0)).below (B := w.heap.size) (Nat.le_refl _) hb0.size).trans ((((But.refl (w.heap.size + 1) _).set 0 (.int .i64 0)).below (by omega) (by simpa using hb0.size)).trans (((But.refl (w.heap.size + 1 + 1) _).set 0 (.int .i64 3)).below (by omega) (by simpa using hb0.size)))
      replace hb0 := hb0.trans hbx
      obtain ⟨e0, e1, e2, e3, e4, e5⟩ := k_e2.facts
      obtain ⟨a0, A0⟩ := k_a2.facts
      obtain ⟨c0, C0⟩ := k_c2.facts
      refine leaves_cons (f := 16) (args := #[.pointer (some ⟨w.heap.size + 1, 0, none⟩), .pointer (some ⟨w.heap.size + 1 + 1, 0, none⟩)]) (by simp) (by simp [go_sem]) ?_
      refine (catch_idle (w.heap.size + 1) (w.heap.size + 1 + 1) _).mono ?_
      rintro e u' w'' ⟨rfl, rfl, rfl⟩
      have htx : True := trivial
      have HB := Lib.hid hb0
      have HT := Lib.hid htx
      clear hb0 htx hbx k_e k_a k_c k_e2 k_a2 k_c2 hmf
      generalize ((put6 w3 w.heap.size (.int .i64 0) (.bool false) (.slice none 0 0) (.slice none 0 0) (.string ⟨#[]⟩) (.slice none 0 0)).setCell ⟨w.heap.size + 1, 0, none⟩ (.int .i64 0)).setCell ⟨w.heap.size + 1 + 1, 0, none⟩ (.int .i64 3) = w5 at *
      simp [Leaves, settle, results, Tryz.results8, go_sem, e0, e1, e2, e3, e4, e5, a0, c0]
      rw [hres.out]
      exact ⟨rfl, HB.out⟩
end Go.Proofs.YtcmkgoikmleanaaGreatDoor
