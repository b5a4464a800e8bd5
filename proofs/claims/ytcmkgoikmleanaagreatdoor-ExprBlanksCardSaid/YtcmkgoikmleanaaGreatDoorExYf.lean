/-
  The document's reader: products, sums, within one another so deep as may be.
-/
import Derived.Test.YtcmkgoikmleanaaGreatDoorExYe
namespace Go.Proofs.YtcmkgoikmleanaaGreatDoor
set_option maxRecDepth 20000
open Go.RowKit

def eOf (g : Nat) (w : World) : Nat := match w.cell? ⟨g, 2, none⟩ with | some (.int _ i) => i.toNat | _ => 0
theorem RRd.eOf {w0 w : World} {g p e b d : Nat} {lg : Bool} {S : ByteArray} (h : RRd w0 g S w p e b d lg) : eOf g w = e := by
  unfold Go.Proofs.YtcmkgoikmleanaaGreatDoor.eOf; rw [h.facts.2.2.1]; rfl
/-- How much is still to be read; 0 once an error stands. -/
def RMs (n g : Nat) (w : World) : Nat := if eOf g w = 0 then n + 2 - atOf g w else 0
/-- What a part answers, without its value. -/
def RVal (w0 : World) (g : Nat) (S : ByteArray) (d : Nat) (lg0 : Bool) (w : World) : PR → Ev → World → Prop
  | .err a c, _, w' => ∃ (p' d' : Nat) (lg' : Bool), RRd w0 g S w' p' c a d' lg' ∧ p' ≤ S.size ∧ d ≤ d' ∧ (d ≤ 31 → d' ≤ 31)
  | .ok _ u p _ lg, v, w' => Tw w' (fun b => w.heap.size ≤ b) u v ∧ RRd w0 g S w' p 0 0 d (lg0 || lg)
theorem RPost.val {w0 : World} {g : Nat} {S : ByteArray} {d : Nat} {lg0 : Bool} {w : World} : ∀ (r : PR) (z : Ending) (w' : World), RPost w0 g S d lg0 w r z w' → ∃ v : Ev, z = .returned (.agg #[.int .i64 v.k, .bool v.r.s, .slice v.r.A v.r.n v.r.c, .slice v.r.B v.r.m v.r.d, .string v.s, .slice v.K v.n v.c]) ∧ RVal w0 g S d lg0 w r v w' ∧ But g w w' := by
  intro r z w' h
  cases r with
  | err a c => obtain ⟨v, p', d', lg', h1, h2, h3, h4, h5, h6⟩ := h; exact ⟨v, h1, ⟨p', d', lg', h2, h3, h4, h5⟩, h6⟩
  | ok t u p n lg => obtain ⟨v, h1, h2, h3, h4⟩ := h; exact ⟨v, h1, ⟨h2, h3⟩, h4⟩
/-- A row of the document's reader, as far as it is read. -/
def RRow (w0 : World) (g : Nat) (S : ByteArray) (d : Nat) (lg0 : Bool) (m : Nat → Nat → PR) (kf : UInt8 → Nat) (RES : PR) (w : World) (eb : Nat) (wr : World) : Prop :=
  (∃ (f : Nat) (t u : Ex) (p n : Nat) (lg : Bool) (v : Ev), Hid (RES = rowL S m kf f t u p n lg) ∧ RRd w0 g S wr p 0 0 d (lg0 || lg) ∧ C6 wr eb (.int .i64 v.k) (.bool v.r.s) (.slice v.r.A v.r.n v.r.c) (.slice v.r.B v.r.m v.r.d) (.string v.s) (.slice v.K v.n v.c) ∧ C6 wr w.heap.size (.int .i64 0) (.bool false) (.slice none 0 0) (.slice none 0 0) (.string ⟨#[]⟩) (.slice none 0 0) ∧
    Tw wr (fun b => w.heap.size + 1 ≤ b ∧ b ≠ eb) u v ∧ But g w wr ∧ p ≤ S.size ∧ S.size < f + p) ∨
  (∃ (a c p d' : Nat) (lg' : Bool) (v : Ev), Hid (RES = .err a c) ∧ (c = 2 ∨ c = 4) ∧ RRd w0 g S wr p c a d' lg' ∧ p ≤ S.size ∧ d ≤ d' ∧ (d ≤ 31 → d' ≤ 31) ∧ C6 wr eb (.int .i64 v.k) (.bool v.r.s) (.slice v.r.A v.r.n v.r.c) (.slice v.r.B v.r.m v.r.d) (.string v.s) (.slice v.K v.n v.c) ∧ C6 wr w.heap.size (.int .i64 0) (.bool false) (.slice none 0 0) (.slice none 0 0) (.string ⟨#[]⟩) (.slice none 0 0) ∧ But g w wr)
theorem rrow_start {w0 w wa w1 : World} {g d p n : Nat} {S : ByteArray} {lg0 : Bool} {m : Nat → Nat → PR} {kf : UInt8 → Nat} {RES r : PR} {v : Ev} (hgl : g < w.heap.size) (hsz : wa.heap.size = w.heap.size + 1)
    (HR : Hid (RES = r.then fun t u p n lg => rowL S m kf (S.size + 1) t u p n lg)) (hG : Good S p n r) (hb' : But g w wa) (k_r : C6 wa w.heap.size (.int .i64 0) (.bool false) (.slice none 0 0) (.slice none 0 0) (.string ⟨#[]⟩) (.slice none 0 0)) (hv : RVal w0 g S d lg0 wa r v w1) (hb : But g wa w1) :
    RRow w0 g S d lg0 m kf RES w w1.heap.size (w1.alloc (.cells #[.int .i64 v.k, .bool v.r.s, .slice v.r.A v.r.n v.r.c, .slice v.r.B v.r.m v.r.d, .string v.s, .slice v.K v.n v.c] 27)) := by
  have hz1 := hb.size
  have k_r1 := (k_r.but hb (by omega)).alloc (.cells #[.int .i64 v.k, .bool v.r.s, .slice v.r.A v.r.n v.r.c, .slice v.r.B v.r.m v.r.d, .string v.s, .slice v.K v.n v.c] 27)
  have hb1 := (hb'.trans hb).alloc (.cells #[.int .i64 v.k, .bool v.r.s, .slice v.r.A v.r.n v.r.c, .slice v.r.B v.r.m v.r.d, .string v.s, .slice v.K v.n v.c] 27)
  have k_e := C6.new w1 (.int .i64 v.k) (.bool v.r.s) (.slice v.r.A v.r.n v.r.c) (.slice v.r.B v.r.m v.r.d) (.string v.s) (.slice v.K v.n v.c)
  cases r with
  | err a c =>
    obtain ⟨p', d', lg', h2, h3, h4, h5⟩ := hv
    exact .inr ⟨a, c, p', d', lg', v, HR, hG.2, h2.alloc _, h3, h4, h5, k_e, k_r1, hb1⟩
  | ok t u p2 n2 lg =>
    obtain ⟨ht, hr⟩ := hv
    refine .inl ⟨S.size + 1, t, u, p2, n2, lg, v, HR, hr.alloc _, k_e, k_r1, ?_, hb1, hG.le, by omega⟩
    exact (ht.lt.wide (Q := fun b => w.heap.size + 1 ≤ b ∧ b ≠ w1.heap.size) (fun b ⟨h1, h2⟩ => ⟨by omega, by omega⟩)).alloc _
theorem rrow_step {w0 w w5 w6 w7 : World} {g d q n k f' eb B : Nat} {S : ByteArray} {lg0 lg : Bool} {m : Nat → Nat → PR} {kf : UInt8 → Nat} {RES r : PR} {t u : Ex} {v v2 : Ev} (hgl : g < w.heap.size) (hgw : w0.heap.size ≤ w.heap.size) (heb : w.heap.size + 1 ≤ eb) (hgeb : g ≠ eb)
    (HR : Hid (RES = r.then fun t2 u2 p2 n2 lg2 => rowL S m kf f' (mk n2 (.bin k t t2)) (.bin k u u2) p2 (n2 + 1) (lg || lg2))) (hG : Good S (q + 1) n r) (hf : S.size < f' + 1 + q)
    (k_e : C6 w5 eb (.int .i64 v.k) (.bool v.r.s) (.slice v.r.A v.r.n v.r.c) (.slice v.r.B v.r.m v.r.d) (.string v.s) (.slice v.K v.n v.c)) (k_r : C6 w5 w.heap.size (.int .i64 0) (.bool false) (.slice none 0 0) (.slice none 0 0) (.string ⟨#[]⟩) (.slice none 0 0)) (ht : Tw w5 (fun b => w.heap.size + 1 ≤ b ∧ b ≠ eb) u v) (hb5 : But g w w5)
    (hv : RVal w0 g S d (lg0 || lg) w5 r v2 w6) (hb6 : But g w5 w6) (hB1 : w6.heap.size ≤ B) (hB2 : B < w7.heap.size) (hBc : w7.heap[B]? = some (.cells #[.int .i64 v.k, .bool v.r.s, .slice v.r.A v.r.n v.r.c, .slice v.r.B v.r.m v.r.d, .string v.s, .slice v.K v.n v.c, .int .i64 v2.k, .bool v2.r.s, .slice v2.r.A v2.r.n v2.r.c, .slice v2.r.B v2.r.m v2.r.d, .string v2.s, .slice v2.K v2.n v2.c] 27 (0, 0))) (hb7 : Below w6.heap.size w6 w7) :
    RRow w0 g S d lg0 m kf RES w eb (put6 w7 eb (.int .i64 k) (.bool false) (.slice none 0 0) (.slice none 0 0) (.string ⟨#[]⟩) (.slice (some ⟨B, 0, none⟩) 2 2)) := by
  have hz5 := hb5.size
  have hz6 := hb6.size
  have hz7 := hb7.size
  have hlt := k_e.lt
  have k_e7 := ((k_e.but hb6 (Ne.symm hgeb)).below hb7).put (.int .i64 k) (.bool false) (.slice none 0 0) (.slice none 0 0) (.string ⟨#[]⟩) (.slice (some ⟨B, 0, none⟩) 2 2)
  have hP := put6_but (w := w7) (b := eb) (.int .i64 k) (.bool false) (.slice none 0 0) (.slice none 0 0) (.string ⟨#[]⟩) (.slice (some ⟨B, 0, none⟩) 2 2)
  have k_r7 := ((k_r.but hb6 (by omega)).below hb7).but hP (by omega)
  have hb8 := ((hb5.trans hb6).trans (.of hb7)).put (b := eb) (by omega) (.int .i64 k) (.bool false) (.slice none 0 0) (.slice none 0 0) (.string ⟨#[]⟩) (.slice (some ⟨B, 0, none⟩) 2 2)
  have hzp : (put6 w7 eb (.int .i64 k) (.bool false) (.slice none 0 0) (.slice none 0 0) (.string ⟨#[]⟩) (.slice (some ⟨B, 0, none⟩) 2 2)).heap.size = w7.heap.size := by simp
  cases r with
  | err a c =>
    obtain ⟨p', d', lg', h2, h3, h4, h5⟩ := hv
    exact .inr ⟨a, c, p', d', lg', ⟨k, Rz, ⟨#[]⟩, some ⟨B, 0, none⟩, 2, 2⟩, HR, hG.2, (h2.next hb7).put (by omega) (by omega) _ _ _ _ _ _, h3, h4, h5, k_e7, k_r7, hb8⟩
  | ok t2 u2 p2 n2 lg2 =>
    obtain ⟨ht2, hr⟩ := hv
    have hlt2 := hG.lt
    refine .inl ⟨f', _, _, p2, n2 + 1, lg || lg2, ⟨k, Rz, ⟨#[]⟩, some ⟨B, 0, none⟩, 2, 2⟩, HR, ?_, k_e7, k_r7, ?_, hb8, hG.le, by omega⟩
    · rw [← Bool.or_assoc]; exact (hr.next hb7).put (by omega) (by omega) _ _ _ _ _ _
    · have a1 := (((ht.but hb6 (fun b ⟨h1, _⟩ => by omega)).below hb7).but hP (fun b h1 => h1.2))
      have a2 := ((ht2.wide (Q := fun b => w.heap.size + 1 ≤ b ∧ b ≠ eb) (fun b h1 => ⟨by omega, by omega⟩)).below hb7).but hP (fun b h1 => h1.2)
      exact ⟨B, v, v2, rfl, ⟨by omega, by omega⟩, by omega, (hP.block B hB2 (by omega)).trans hBc, a1, a2⟩
theorem rrow_ms {w0 w5 w6 w7 : World} {g d q n k eb B : Nat} {S : ByteArray} {lg0 : Bool} {r : PR} {v2 : Ev} (hgeb : eb ≠ g) (hgw : w0.heap.size ≤ eb) (hq : q < S.size)
    (hv : RVal w0 g S d lg0 w5 r v2 w6) (hb7 : Below w6.heap.size w6 w7) (hG : Good S (q + 1) n r) :
    RMs S.size g (put6 w7 eb (.int .i64 k) (.bool false) (.slice none 0 0) (.slice none 0 0) (.string ⟨#[]⟩) (.slice (some ⟨B, 0, none⟩) 2 2)) < S.size + 2 - q := by
  cases r with
  | err a c =>
    obtain ⟨p', d', lg', h2, h3, h4, h5⟩ := hv
    have h6 := (h2.next hb7).put hgeb hgw (.int .i64 k) (.bool false) (.slice none 0 0) (.slice none 0 0) (.string ⟨#[]⟩) (.slice (some ⟨B, 0, none⟩) 2 2)
    unfold RMs
    rw [h6.eOf, if_neg (by have := hG.2; omega)]
    omega
  | ok t2 u2 p2 n2 lg2 =>
    obtain ⟨ht2, hr⟩ := hv
    have h6 := (hr.next hb7).put hgeb hgw (.int .i64 k) (.bool false) (.slice none 0 0) (.slice none 0 0) (.string ⟨#[]⟩) (.slice (some ⟨B, 0, none⟩) 2 2)
    have hlt := hG.lt
    have hle := hG.le
    unfold RMs
    rw [h6.eOf, h6.atOf, if_pos rfl]
    omega
set_option maxHeartbeats 16000000 in
theorem rproduct_c {w0 : World} {g d : Nat} {S : ByteArray} {m : Nat → Nat → PR} (HP : Hid (RPart w0 g S 66 d m)) (HG : Hid (∀ p n, p ≤ S.size → Good S p n (m p n))) (hs : S.size ≤ 100000) : RPart w0 g S 42 d (rowS S m kPro) := by
  intro w p n lg0 h hp
  have hgl := h.lt
  have hw0 := h.below.size
  have h' := h.alloc (.cells #[.int .i64 0, .bool false, .slice none 0 0, .slice none 0 0, .string ⟨#[]⟩, .slice none 0 0] 27)
  have hb' := (But.refl g w).alloc (.cells #[.int .i64 0, .bool false, .slice none 0 0, .slice none 0 0, .string ⟨#[]⟩, .slice none 0 0] 27)
  have k_r := C6.new w (.int .i64 0) (.bool false) (.slice none 0 0) (.slice none 0 0) (.string ⟨#[]⟩) (.slice none 0 0)
  have hsz : (w.alloc (.cells #[.int .i64 0, .bool false, .slice none 0 0, .slice none 0 0, .string ⟨#[]⟩, .slice none 0 0] 27)).heap.size = w.heap.size + 1 := by simp
  have HR : Hid (rowS S m kPro p n = (m p n).then fun t u p n lg => rowL S m kPro (S.size + 1) t u p n lg) := rfl
  have HGp := HG.out p n hp
  generalize rowS S m kPro p n = RES at *
  go_enter Tryz.func42, Tryz.ntmps42
  go_wp2_with fail
  refine (HP.out _ p n lg0 h' hp).mono ?_
  generalize w.alloc (.cells #[.int .i64 0, .bool false, .slice none 0 0, .slice none 0 0, .string ⟨#[]⟩, .slice none 0 0] 27) = wa at *
  generalize m p n = r0 at *
  rintro z w1 hpost
  obtain ⟨v, rfl, hval, hb⟩ := RPost.val _ _ _ hpost
  have HR0 := rrow_start hgl hsz HR HGp hb' k_r hval hb
  have heb : w.heap.size + 1 ≤ w1.heap.size := by have := hb.size; omega
  clear hpost hval hb HGp HR hb' k_r h'
  go_wp2_with fail
  generalize w1.alloc (.cells #[.int .i64 v.k, .bool v.r.s, .slice v.r.A v.r.n v.r.c, .slice v.r.B v.r.m v.r.d, .string v.s, .slice v.K v.n v.c] 27) = w2 at *
  generalize w1.heap.size = eb at *
  go_loopw [] (fun wr => RRow w0 g S d lg0 m kPro RES w eb wr) (fun wr => RMs S.size g wr)
  case atStart => exact HR0
  case round =>
    clear HR0
    rcases hrel with ⟨f, t, u, p, n, lg, v, HR, hr, k_e, k_r, ht, hb, hp, hf⟩ | ⟨a, c, p, d', lg', v, HRE, hc, hr, hp, hd1, hd2, k_e, k_r, hb⟩
    · have hq := skp_le S p
      have hq2 := skp_ge S hp
      obtain ⟨f', rfl⟩ : ∃ f', f = f' + 1 := ⟨f - 1, by omega⟩
      have hMs : Hid (RMs S.size g wr = S.size + 2 - p) := by show _ = _; unfold RMs; rw [hr.eOf, hr.atOf, if_pos rfl]
      go_wp2_with fail
      refine (rnext_ok hr hp hs).mono ?_
      rintro e w3 ⟨rfl, hr3, hb3⟩
      replace hb := hb.trans hb3
      replace k_e := k_e.but hb3 (by omega)
      replace k_r := k_r.but hb3 (by omega)
      replace ht := ht.but hb3 (fun b ⟨h1, _⟩ => by omega)
      have hr := hr3
      clear hb3 hr3
      obtain ⟨q, hqd⟩ : ∃ q, Hid (skp S p = q) := ⟨_, rfl⟩
      rw [hqd.out] at hr hq hq2
      rw [hqd.out]
      have hgeb : g ≠ eb := by omega
      by_cases c42 : bt S q = 42
      · have hk : kPro (bt S q) = 5 := by rw [c42]; rfl
        have HR2 : Hid (RES = (m (q + 1) n).then fun t2 u2 p2 n2 lg2 => rowL S m kPro f' (mk n2 (.bin 5 t t2)) (.bin 5 u u2) p2 (n2 + 1) (lg || lg2)) := by
          show RES = _
          rw [HR.out]; rw [rowL]; rw [if_neg (by rw [hqd.out, hk]; decide), hqd.out, hk]
        have hlt : q < S.size := bt_some (fun e => by rw [e] at c42; exact absurd c42 (by decide))
        have HGp := HG.out (q + 1) n (by omega)
        have hI42 : ((bt S q).toNat : Int) = 42 := by rw [c42]; rfl
        rw [hI42]
        have i2 : (q : Int) ≤ 100000 := by omega
        have i3 : (0 : Int) ≤ (q : Int) := by omega
        clear HR hk c42 hI42
        obtain ⟨h0, h1, h2, h3, h4, h5⟩ := hr.facts
        obtain ⟨f1, f2, f3, f4, f5⟩ := hr.thaw
        obtain ⟨e0, e1, e2, e3, e4, e5⟩ := k_e.facts
        obtain ⟨E0, E1, E2, E3, E4, E5⟩ := k_e.thaw
        go_wp2_with fail
        have hr5 := (hr.set1 (q := q + 1) (v := (q : Int) + 1) (by omega)).drew
        have hw5 := (But.refl g w3).set 1 (.int .i64 ((q : Int) + 1))
        have k_e5 := (k_e.but hw5 (by omega)).drew
        have k_r5 := (k_r.but hw5 (by omega)).drew
        have ht5 := (ht.but hw5 (fun b ⟨h1, _⟩ => by omega)).drew
        have hb5 := (hb.trans hw5).drew
        clear h0 h1 h2 h3 h4 h5 f1 f2 f3 f4 f5 e0 e1 e2 e3 e4 e5 E0 E1 E2 E3 E4 E5 hw5 hr k_e k_r ht hb
        generalize w3.setCell ⟨g, 1, none⟩ (.int .i64 ((q : Int) + 1)) = w5 at *
        obtain ⟨e0, e1, e2, e3, e4, e5⟩ := k_e5.facts
        obtain ⟨E0, E1, E2, E3, E4, E5⟩ := k_e5.thaw
        have HC := Lib.hid (HP.out w5.drew (q + 1) n (lg0 || lg) hr5 (by omega))
        go_region_with (first
          | (go_at_call 66
             refine HC.out.mono ?_
             rintro z w6 hpost
             obtain ⟨v2, rfl, hval, hb6⟩ := RPost.val _ _ _ hpost
             have k_e6 := k_e5.but hb6 (by omega)
             clear hpost e0 e1 e2 e3 e4 e5 E0 E1 E2 E3 E4 E5
             obtain ⟨e0, e1, e2, e3, e4, e5⟩ := k_e6.facts
             obtain ⟨E0, E1, E2, E3, E4, E5⟩ := k_e6.thaw)
          | (go_at_call 44
             refine (two_c 5 v v2 _).mono ?_
             rintro z w7 ⟨B, rfl, hB1, hB2, hBc, hb7⟩
             have k_e7 := k_e6.below hb7
             clear e0 e1 e2 e3 e4 e5 E0 E1 E2 E3 E4 E5
             obtain ⟨e0, e1, e2, e3, e4, e5⟩ := k_e7.facts
             obtain ⟨E0, E1, E2, E3, E4, E5⟩ := k_e7.thaw))
        all_goals (
          have hrel := rrow_step hgl hw0 heb (by omega) HR2 HGp (by omega) k_e5 k_r5 ht5 hb5 hval hb6 hB1 hB2 hBc hb7
          have hms := rrow_ms (k := 5) (B := B) (eb := eb) (by omega) (by omega) hlt hval hb7 HGp
          have HREL := Lib.hid hrel
          have HMS := Lib.hid hms
          clear hrel hms hval hb6 hb7 hBc k_e5 k_r5 ht5 hb5 k_e6 k_e7 hr5 HC HR2 HGp
          go_wp2
          go_roundw
          case rel => exact HREL.out
          case measure => exact Nat.lt_of_lt_of_le HMS.out (by rw [hMs.out]; omega))
      · have n42 : (bt S q).toNat ≠ 42 := u8_ne (k := 42) (by omega) c42
        have i42 : ¬ (((bt S q).toNat : Int) = 42) := by omega
        have j42 : (((bt S q).toNat : Int) == 42) = false := beq_eq_false_iff_ne.2 i42
        by_cases c47 : bt S q = 47
        · clear n42 i42 j42
          have hk : kPro (bt S q) = 6 := by rw [c47]; rfl
          have HR2 : Hid (RES = (m (q + 1) n).then fun t2 u2 p2 n2 lg2 => rowL S m kPro f' (mk n2 (.bin 6 t t2)) (.bin 6 u u2) p2 (n2 + 1) (lg || lg2)) := by
            show RES = _
            rw [HR.out]; rw [rowL]; rw [if_neg (by rw [hqd.out, hk]; decide), hqd.out, hk]
          have hlt : q < S.size := bt_some (fun e => by rw [e] at c47; exact absurd c47 (by decide))
          have HGp := HG.out (q + 1) n (by omega)
          have hI47 : ((bt S q).toNat : Int) = 47 := by rw [c47]; rfl
          rw [hI47]
          have i2 : (q : Int) ≤ 100000 := by omega
          have i3 : (0 : Int) ≤ (q : Int) := by omega
          clear HR hk c47 hI47
          obtain ⟨h0, h1, h2, h3, h4, h5⟩ := hr.facts
          obtain ⟨f1, f2, f3, f4, f5⟩ := hr.thaw
          obtain ⟨e0, e1, e2, e3, e4, e5⟩ := k_e.facts
          obtain ⟨E0, E1, E2, E3, E4, E5⟩ := k_e.thaw
          go_wp2_with fail
          have hr5 := (hr.set1 (q := q + 1) (v := (q : Int) + 1) (by omega)).drew
          have hw5 := (But.refl g w3).set 1 (.int .i64 ((q : Int) + 1))
          have k_e5 := (k_e.but hw5 (by omega)).drew
          have k_r5 := (k_r.but hw5 (by omega)).drew
          have ht5 := (ht.but hw5 (fun b ⟨h1, _⟩ => by omega)).drew
          have hb5 := (hb.trans hw5).drew
          clear h0 h1 h2 h3 h4 h5 f1 f2 f3 f4 f5 e0 e1 e2 e3 e4 e5 E0 E1 E2 E3 E4 E5 hw5 hr k_e k_r ht hb
          generalize w3.setCell ⟨g, 1, none⟩ (.int .i64 ((q : Int) + 1)) = w5 at *
          obtain ⟨e0, e1, e2, e3, e4, e5⟩ := k_e5.facts
          obtain ⟨E0, E1, E2, E3, E4, E5⟩ := k_e5.thaw
          have HC := Lib.hid (HP.out w5.drew (q + 1) n (lg0 || lg) hr5 (by omega))
          go_region_with (first
            | (go_at_call 66
               refine HC.out.mono ?_
               rintro z w6 hpost
               obtain ⟨v2, rfl, hval, hb6⟩ := RPost.val _ _ _ hpost
               have k_e6 := k_e5.but hb6 (by omega)
               clear hpost e0 e1 e2 e3 e4 e5 E0 E1 E2 E3 E4 E5
               obtain ⟨e0, e1, e2, e3, e4, e5⟩ := k_e6.facts
               obtain ⟨E0, E1, E2, E3, E4, E5⟩ := k_e6.thaw)
            | (go_at_call 44
               refine (two_c 6 v v2 _).mono ?_
               rintro z w7 ⟨B, rfl, hB1, hB2, hBc, hb7⟩
               have k_e7 := k_e6.below hb7
               clear e0 e1 e2 e3 e4 e5 E0 E1 E2 E3 E4 E5
               obtain ⟨e0, e1, e2, e3, e4, e5⟩ := k_e7.facts
               obtain ⟨E0, E1, E2, E3, E4, E5⟩ := k_e7.thaw))
          all_goals (
            have hrel := rrow_step hgl hw0 heb (by omega) HR2 HGp (by omega) k_e5 k_r5 ht5 hb5 hval hb6 hB1 hB2 hBc hb7
            have hms := rrow_ms (k := 6) (B := B) (eb := eb) (by omega) (by omega) hlt hval hb7 HGp
            have HREL := Lib.hid hrel
            have HMS := Lib.hid hms
            clear hrel hms hval hb6 hb7 hBc k_e5 k_r5 ht5 hb5 k_e6 k_e7 hr5 HC HR2 HGp
            go_wp2
            go_roundw
            case rel => exact HREL.out
            case measure => exact Nat.lt_of_lt_of_le HMS.out (by rw [hMs.out]; omega))
        · have n47 : (bt S q).toNat ≠ 47 := u8_ne (k := 47) (by omega) c47
          have i47 : ¬ (((bt S q).toNat : Int) = 47) := by omega
          have j47 : (((bt S q).toNat : Int) == 47) = false := beq_eq_false_iff_ne.2 i47
          have hres : Hid (RES = .ok t u q n lg) := by
            show RES = _
            rw [HR.out]; unfold rowL; rw [hqd.out, if_pos (by unfold kPro; rw [if_neg c42, if_neg c47])]
          clear n42 n47 c42 c47 HR
          obtain ⟨e0, e1, e2, e3, e4, e5⟩ := k_e.facts
          obtain ⟨s0, s1, s2, s3, s4, s5⟩ := k_r.facts
          obtain ⟨r0, r1, r2, r3, r4, r5⟩ := k_r.thaw
          go_wp2
          refine ret6 (fn := Tryz.f42) Tryz.results42 rfl rfl k_r ?_
          rw [hres.out]
          exact ⟨v, rfl, (ht.but (put6_but _ _ _ _ _ _) (fun b ⟨h1, _⟩ => by omega)).wide (fun b ⟨h1, _⟩ => by omega), hr.put (by omega) hw0 _ _ _ _ _ _, hb.put (Nat.le_refl _) _ _ _ _ _ _⟩
    · go_wp2_with fail
      refine (rnext_err hr hc hp hs).mono ?_
      rintro e w3 ⟨rfl, hr3, hb3⟩
      replace hb := hb.trans hb3
      replace k_e := k_e.but hb3 (by omega)
      replace k_r := k_r.but hb3 (by omega)
      have hq2 := skp_ge S hp
      clear hb3 hr
      obtain ⟨e0, e1, e2, e3, e4, e5⟩ := k_e.facts
      obtain ⟨s0, s1, s2, s3, s4, s5⟩ := k_r.facts
      obtain ⟨r0, r1, r2, r3, r4, r5⟩ := k_r.thaw
      go_wp2
      refine ret6 (fn := Tryz.f42) Tryz.results42 rfl rfl k_r ?_
      rw [HRE.out]
      exact ⟨v, _, d', lg', rfl, hr3.put (by omega) hw0 _ _ _ _ _ _, hq2, hd1, hd2, hb.put (Nat.le_refl _) _ _ _ _ _ _⟩
set_option maxHeartbeats 16000000 in
theorem rsum_c {w0 : World} {g d : Nat} {S : ByteArray} {m : Nat → Nat → PR} (HP : Hid (RPart w0 g S 42 d m)) (HG : Hid (∀ p n, p ≤ S.size → Good S p n (m p n))) (hs : S.size ≤ 100000) : RPart w0 g S 24 d (rowS S m kSum) := by
  intro w p n lg0 h hp
  have hgl := h.lt
  have hw0 := h.below.size
  have h' := h.alloc (.cells #[.int .i64 0, .bool false, .slice none 0 0, .slice none 0 0, .string ⟨#[]⟩, .slice none 0 0] 27)
  have hb' := (But.refl g w).alloc (.cells #[.int .i64 0, .bool false, .slice none 0 0, .slice none 0 0, .string ⟨#[]⟩, .slice none 0 0] 27)
  have k_r := C6.new w (.int .i64 0) (.bool false) (.slice none 0 0) (.slice none 0 0) (.string ⟨#[]⟩) (.slice none 0 0)
  have hsz : (w.alloc (.cells #[.int .i64 0, .bool false, .slice none 0 0, .slice none 0 0, .string ⟨#[]⟩, .slice none 0 0] 27)).heap.size = w.heap.size + 1 := by simp
  have HR : Hid (rowS S m kSum p n = (m p n).then fun t u p n lg => rowL S m kSum (S.size + 1) t u p n lg) := rfl
  have HGp := HG.out p n hp
  generalize rowS S m kSum p n = RES at *
  go_enter Tryz.func24, Tryz.ntmps24
  go_wp2_with fail
  refine (HP.out _ p n lg0 h' hp).mono ?_
  generalize w.alloc (.cells #[.int .i64 0, .bool false, .slice none 0 0, .slice none 0 0, .string ⟨#[]⟩, .slice none 0 0] 27) = wa at *
  generalize m p n = r0 at *
  rintro z w1 hpost
  obtain ⟨v, rfl, hval, hb⟩ := RPost.val _ _ _ hpost
  have HR0 := rrow_start hgl hsz HR HGp hb' k_r hval hb
  have heb : w.heap.size + 1 ≤ w1.heap.size := by have := hb.size; omega
  clear hpost hval hb HGp HR hb' k_r h'
  go_wp2_with fail
  generalize w1.alloc (.cells #[.int .i64 v.k, .bool v.r.s, .slice v.r.A v.r.n v.r.c, .slice v.r.B v.r.m v.r.d, .string v.s, .slice v.K v.n v.c] 27) = w2 at *
  generalize w1.heap.size = eb at *
  go_loopw [] (fun wr => RRow w0 g S d lg0 m kSum RES w eb wr) (fun wr => RMs S.size g wr)
  case atStart => exact HR0
  case round =>
    clear HR0
    rcases hrel with ⟨f, t, u, p, n, lg, v, HR, hr, k_e, k_r, ht, hb, hp, hf⟩ | ⟨a, c, p, d', lg', v, HRE, hc, hr, hp, hd1, hd2, k_e, k_r, hb⟩
    · have hq := skp_le S p
      have hq2 := skp_ge S hp
      obtain ⟨f', rfl⟩ : ∃ f', f = f' + 1 := ⟨f - 1, by omega⟩
      have hMs : Hid (RMs S.size g wr = S.size + 2 - p) := by show _ = _; unfold RMs; rw [hr.eOf, hr.atOf, if_pos rfl]
      go_wp2_with fail
      refine (rnext_ok hr hp hs).mono ?_
      rintro e w3 ⟨rfl, hr3, hb3⟩
      replace hb := hb.trans hb3
      replace k_e := k_e.but hb3 (by omega)
      replace k_r := k_r.but hb3 (by omega)
      replace ht := ht.but hb3 (fun b ⟨h1, _⟩ => by omega)
      have hr := hr3
      clear hb3 hr3
      obtain ⟨q, hqd⟩ : ∃ q, Hid (skp S p = q) := ⟨_, rfl⟩
      rw [hqd.out] at hr hq hq2
      rw [hqd.out]
      have hgeb : g ≠ eb := by omega
      by_cases c43 : bt S q = 43
      · have hk : kSum (bt S q) = 3 := by rw [c43]; rfl
        have HR2 : Hid (RES = (m (q + 1) n).then fun t2 u2 p2 n2 lg2 => rowL S m kSum f' (mk n2 (.bin 3 t t2)) (.bin 3 u u2) p2 (n2 + 1) (lg || lg2)) := by
          show RES = _
          rw [HR.out]; rw [rowL]; rw [if_neg (by rw [hqd.out, hk]; decide), hqd.out, hk]
        have hlt : q < S.size := bt_some (fun e => by rw [e] at c43; exact absurd c43 (by decide))
        have HGp := HG.out (q + 1) n (by omega)
        have hI43 : ((bt S q).toNat : Int) = 43 := by rw [c43]; rfl
        rw [hI43]
        have i2 : (q : Int) ≤ 100000 := by omega
        have i3 : (0 : Int) ≤ (q : Int) := by omega
        clear HR hk c43 hI43
        obtain ⟨h0, h1, h2, h3, h4, h5⟩ := hr.facts
        obtain ⟨f1, f2, f3, f4, f5⟩ := hr.thaw
        obtain ⟨e0, e1, e2, e3, e4, e5⟩ := k_e.facts
        obtain ⟨E0, E1, E2, E3, E4, E5⟩ := k_e.thaw
        go_wp2_with fail
        have hr5 := (hr.set1 (q := q + 1) (v := (q : Int) + 1) (by omega)).drew
        have hw5 := (But.refl g w3).set 1 (.int .i64 ((q : Int) + 1))
        have k_e5 := (k_e.but hw5 (by omega)).drew
        have k_r5 := (k_r.but hw5 (by omega)).drew
        have ht5 := (ht.but hw5 (fun b ⟨h1, _⟩ => by omega)).drew
        have hb5 := (hb.trans hw5).drew
        clear h0 h1 h2 h3 h4 h5 f1 f2 f3 f4 f5 e0 e1 e2 e3 e4 e5 E0 E1 E2 E3 E4 E5 hw5 hr k_e k_r ht hb
        generalize w3.setCell ⟨g, 1, none⟩ (.int .i64 ((q : Int) + 1)) = w5 at *
        obtain ⟨e0, e1, e2, e3, e4, e5⟩ := k_e5.facts
        obtain ⟨E0, E1, E2, E3, E4, E5⟩ := k_e5.thaw
        have HC := Lib.hid (HP.out w5.drew (q + 1) n (lg0 || lg) hr5 (by omega))
        go_region_with (first
          | (go_at_call 42
             refine HC.out.mono ?_
             rintro z w6 hpost
             obtain ⟨v2, rfl, hval, hb6⟩ := RPost.val _ _ _ hpost
             have k_e6 := k_e5.but hb6 (by omega)
             clear hpost e0 e1 e2 e3 e4 e5 E0 E1 E2 E3 E4 E5
             obtain ⟨e0, e1, e2, e3, e4, e5⟩ := k_e6.facts
             obtain ⟨E0, E1, E2, E3, E4, E5⟩ := k_e6.thaw)
          | (go_at_call 44
             refine (two_c 3 v v2 _).mono ?_
             rintro z w7 ⟨B, rfl, hB1, hB2, hBc, hb7⟩
             have k_e7 := k_e6.below hb7
             clear e0 e1 e2 e3 e4 e5 E0 E1 E2 E3 E4 E5
             obtain ⟨e0, e1, e2, e3, e4, e5⟩ := k_e7.facts
             obtain ⟨E0, E1, E2, E3, E4, E5⟩ := k_e7.thaw))
        all_goals (
          have hrel := rrow_step hgl hw0 heb (by omega) HR2 HGp (by omega) k_e5 k_r5 ht5 hb5 hval hb6 hB1 hB2 hBc hb7
          have hms := rrow_ms (k := 3) (B := B) (eb := eb) (by omega) (by omega) hlt hval hb7 HGp
          have HREL := Lib.hid hrel
          have HMS := Lib.hid hms
          clear hrel hms hval hb6 hb7 hBc k_e5 k_r5 ht5 hb5 k_e6 k_e7 hr5 HC HR2 HGp
          go_wp2
          go_roundw
          case rel => exact HREL.out
          case measure => exact Nat.lt_of_lt_of_le HMS.out (by rw [hMs.out]; omega))
      · have n43 : (bt S q).toNat ≠ 43 := u8_ne (k := 43) (by omega) c43
        have i43 : ¬ (((bt S q).toNat : Int) = 43) := by omega
        have j43 : (((bt S q).toNat : Int) == 43) = false := beq_eq_false_iff_ne.2 i43
        by_cases c45 : bt S q = 45
        · clear n43 i43 j43
          have hk : kSum (bt S q) = 4 := by rw [c45]; rfl
          have HR2 : Hid (RES = (m (q + 1) n).then fun t2 u2 p2 n2 lg2 => rowL S m kSum f' (mk n2 (.bin 4 t t2)) (.bin 4 u u2) p2 (n2 + 1) (lg || lg2)) := by
            show RES = _
            rw [HR.out]; rw [rowL]; rw [if_neg (by rw [hqd.out, hk]; decide), hqd.out, hk]
          have hlt : q < S.size := bt_some (fun e => by rw [e] at c45; exact absurd c45 (by decide))
          have HGp := HG.out (q + 1) n (by omega)
          have hI45 : ((bt S q).toNat : Int) = 45 := by rw [c45]; rfl
          rw [hI45]
          have i2 : (q : Int) ≤ 100000 := by omega
          have i3 : (0 : Int) ≤ (q : Int) := by omega
          clear HR hk c45 hI45
          obtain ⟨h0, h1, h2, h3, h4, h5⟩ := hr.facts
          obtain ⟨f1, f2, f3, f4, f5⟩ := hr.thaw
          obtain ⟨e0, e1, e2, e3, e4, e5⟩ := k_e.facts
          obtain ⟨E0, E1, E2, E3, E4, E5⟩ := k_e.thaw
          go_wp2_with fail
          have hr5 := (hr.set1 (q := q + 1) (v := (q : Int) + 1) (by omega)).drew
          have hw5 := (But.refl g w3).set 1 (.int .i64 ((q : Int) + 1))
          have k_e5 := (k_e.but hw5 (by omega)).drew
          have k_r5 := (k_r.but hw5 (by omega)).drew
          have ht5 := (ht.but hw5 (fun b ⟨h1, _⟩ => by omega)).drew
          have hb5 := (hb.trans hw5).drew
          clear h0 h1 h2 h3 h4 h5 f1 f2 f3 f4 f5 e0 e1 e2 e3 e4 e5 E0 E1 E2 E3 E4 E5 hw5 hr k_e k_r ht hb
          generalize w3.setCell ⟨g, 1, none⟩ (.int .i64 ((q : Int) + 1)) = w5 at *
          obtain ⟨e0, e1, e2, e3, e4, e5⟩ := k_e5.facts
          obtain ⟨E0, E1, E2, E3, E4, E5⟩ := k_e5.thaw
          have HC := Lib.hid (HP.out w5.drew (q + 1) n (lg0 || lg) hr5 (by omega))
          go_region_with (first
            | (go_at_call 42
               refine HC.out.mono ?_
               rintro z w6 hpost
               obtain ⟨v2, rfl, hval, hb6⟩ := RPost.val _ _ _ hpost
               have k_e6 := k_e5.but hb6 (by omega)
               clear hpost e0 e1 e2 e3 e4 e5 E0 E1 E2 E3 E4 E5
               obtain ⟨e0, e1, e2, e3, e4, e5⟩ := k_e6.facts
               obtain ⟨E0, E1, E2, E3, E4, E5⟩ := k_e6.thaw)
            | (go_at_call 44
               refine (two_c 4 v v2 _).mono ?_
               rintro z w7 ⟨B, rfl, hB1, hB2, hBc, hb7⟩
               have k_e7 := k_e6.below hb7
               clear e0 e1 e2 e3 e4 e5 E0 E1 E2 E3 E4 E5
               obtain ⟨e0, e1, e2, e3, e4, e5⟩ := k_e7.facts
               obtain ⟨E0, E1, E2, E3, E4, E5⟩ := k_e7.thaw))
          all_goals (
            have hrel := rrow_step hgl hw0 heb (by omega) HR2 HGp (by omega) k_e5 k_r5 ht5 hb5 hval hb6 hB1 hB2 hBc hb7
            have hms := rrow_ms (k := 4) (B := B) (eb := eb) (by omega) (by omega) hlt hval hb7 HGp
            have HREL := Lib.hid hrel
            have HMS := Lib.hid hms
            clear hrel hms hval hb6 hb7 hBc k_e5 k_r5 ht5 hb5 k_e6 k_e7 hr5 HC HR2 HGp
            go_wp2
            go_roundw
            case rel => exact HREL.out
            case measure => exact Nat.lt_of_lt_of_le HMS.out (by rw [hMs.out]; omega))
        · have n45 : (bt S q).toNat ≠ 45 := u8_ne (k := 45) (by omega) c45
          have i45 : ¬ (((bt S q).toNat : Int) = 45) := by omega
          have j45 : (((bt S q).toNat : Int) == 45) = false := beq_eq_false_iff_ne.2 i45
          have hres : Hid (RES = .ok t u q n lg) := by
            show RES = _
            rw [HR.out]; unfold rowL; rw [hqd.out, if_pos (by unfold kSum; rw [if_neg c43, if_neg c45])]
          clear n43 n45 c43 c45 HR
          obtain ⟨e0, e1, e2, e3, e4, e5⟩ := k_e.facts
          obtain ⟨s0, s1, s2, s3, s4, s5⟩ := k_r.facts
          obtain ⟨r0, r1, r2, r3, r4, r5⟩ := k_r.thaw
          go_wp2
          refine ret6 (fn := Tryz.f24) Tryz.results24 rfl rfl k_r ?_
          rw [hres.out]
          exact ⟨v, rfl, (ht.but (put6_but _ _ _ _ _ _) (fun b ⟨h1, _⟩ => by omega)).wide (fun b ⟨h1, _⟩ => by omega), hr.put (by omega) hw0 _ _ _ _ _ _, hb.put (Nat.le_refl _) _ _ _ _ _ _⟩
    · go_wp2_with fail
      refine (rnext_err hr hc hp hs).mono ?_
      rintro e w3 ⟨rfl, hr3, hb3⟩
      replace hb := hb.trans hb3
      replace k_e := k_e.but hb3 (by omega)
      replace k_r := k_r.but hb3 (by omega)
      have hq2 := skp_ge S hp
      clear hb3 hr
      obtain ⟨e0, e1, e2, e3, e4, e5⟩ := k_e.facts
      obtain ⟨s0, s1, s2, s3, s4, s5⟩ := k_r.facts
      obtain ⟨r0, r1, r2, r3, r4, r5⟩ := k_r.thaw
      go_wp2
      refine ret6 (fn := Tryz.f24) Tryz.results24 rfl rfl k_r ?_
      rw [HRE.out]
      exact ⟨v, _, d', lg', rfl, hr3.put (by omega) hw0 _ _ _ _ _ _, hq2, hd1, hd2, hb.put (Nat.le_refl _) _ _ _ _ _ _⟩
theorem rlev_c {w0 : World} {g : Nat} {S : ByteArray} (hs : S.size ≤ 100000) : ∀ k, k ≤ 31 →
    RPart w0 g S 66 (31 - k) (lev tv S k).1 ∧ RPart w0 g S 24 (31 - k) (lev tv S k).2 := by
  intro k
  induction k with
  | zero =>
    intro _
    have hf : RPart w0 g S 66 31 (fac tv S none) :=
      rfac_c hs (fun w p n lg h hp hc => rfac_neg31 hs w p h hp hc) (fun w p n lg h hp hc => rfac_br31 hs w p h hp hc)
    have hg : ∀ p n, p ≤ S.size → Good S p n (fac tv S none p n) := fun p n hp => (lev_good tv S 0).1 p n hp
    exact ⟨hf, rsum_c (Lib.hid (rproduct_c (Lib.hid hf) (Lib.hid hg) hs)) (Lib.hid fun p n hp => rowS_good (by decide) hg p n hp) hs⟩
  | succ k ih =>
    intro hk
    obtain ⟨i1, i2⟩ := ih (by omega)
    obtain ⟨g1, g2⟩ := lev_good tv S k
    have e : 31 - k = (31 - (k + 1)) + 1 := by omega
    rw [e] at i1 i2
    have hf : RPart w0 g S 66 (31 - (k + 1)) (fac tv S (some ((lev tv S k).1, (lev tv S k).2))) :=
      rfac_c hs (fun w p n lg h hp hc => rfac_neg (Lib.hid i1) (Lib.hid g1) (by omega) hs w p n h hp hc) (fun w p n lg h hp hc => rfac_br (Lib.hid i2) (Lib.hid g2) (by omega) hs w p n h hp hc)
    have hg : ∀ p n, p ≤ S.size → Good S p n (fac tv S (some (lev tv S k)) p n) := fun p n hp => (lev_good tv S (k + 1)).1 p n hp
    exact ⟨hf, rsum_c (Lib.hid (rproduct_c (Lib.hid hf) (Lib.hid hg) hs)) (Lib.hid fun p n hp => rowS_good (by decide) hg p n hp) hs⟩
end Go.Proofs.YtcmkgoikmleanaaGreatDoor
