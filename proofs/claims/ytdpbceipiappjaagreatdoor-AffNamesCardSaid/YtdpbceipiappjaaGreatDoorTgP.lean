/-
  The program's looks and text of a tree that came in; the document's Same of two that came in or were made.
-/
import Derived.Test.YtdpbceipiappjaaGreatDoorTrue
namespace Go.Proofs.YtdpbceipiappjaaGreatDoor
set_option maxRecDepth 20000
open Go.RowKit

theorem blk_rw {w : World} {y : Rv} {p : Nat} (h : Blk w y) (hp : 0 < p) : Rw w y 0 p := by
  obtain ⟨h1, h2, h3⟩ := h
  rcases h3 with h3 | h3
  · refine ⟨by omega, by omega, by omega, by omega, [], [], ?_, ?_, ?_⟩
    · rw [h2]; exact Row.nil_ _ _ _
    · rw [h3]; exact Row.nil_ _ _ _
    · exact rn_zero (.inl rfl)
  · exact h3.rw (Sz.zero hp)
theorem Tg.below {w w' : World} (hb : Below w.heap.size w w') : ∀ (t : Ex) (v : Ev), Tg w t v → Tg w' t v := by
  intro t
  induction t with
  | bad => exact fun v h => h
  | num r => exact fun v ⟨h1, h2, h3, h4⟩ => ⟨h1, h2, h3, h4.below hb⟩
  | nm s => exact fun v ⟨h1, h2, h3, h4⟩ => ⟨h1, h2, h3, h4.below hb⟩
  | bin k a b iha ihb => exact fun v ⟨h1, h2, h3, h4, b0, off, x, y, h5, h6, h7, h8, h9, h10⟩ => ⟨h1, h2, h3, h4.below hb, b0, off, x, y, h5, Nat.lt_of_lt_of_le h6 hb.size, h7.keep (hb.block b0 h6), h8.keep (hb.block b0 h6), iha x h9, ihb y h10⟩
  | neg a iha => exact fun v ⟨h1, h2, h3, h4, b0, off, x, h5, h6, h7, h8⟩ => ⟨h1, h2, h3, h4.below hb, b0, off, x, h5, Nat.lt_of_lt_of_le h6 hb.size, h7.keep (hb.block b0 h6), iha x h8⟩
theorem tg_of_tw {w : World} {P : Nat → Prop} : ∀ (t : Ex) (v : Ev), t.fine → Tw w P t v → Tg w t v := by
  intro t
  induction t with
  | bad => exact fun v h => h.elim
  | num r =>
    intro v _ h
    obtain ⟨h1, h2, _⟩ := h
    generalize v.r = y at *
    subst h1
    exact ⟨rfl, rfl, rfl, h2⟩
  | nm s =>
    intro v _ h
    have h' : v = ⟨2, Rz, s, none, 0, 0⟩ := h
    subst h'
    exact ⟨rfl, rfl, rfl, rfl, rfl, .inl rfl⟩
  | bin k a b iha ihb =>
    intro v hf h
    obtain ⟨b0, x, y, rfl, _, hb0, hblk, ha, hb⟩ := h
    obtain ⟨h6a, h6b⟩ := at6_two hblk
    exact ⟨rfl, rfl, rfl, ⟨rfl, rfl, .inl rfl⟩, b0, 0, x, y, rfl, hb0, h6a, h6b, iha x hf.1 ha, ihb y hf.2 hb⟩
  | neg a iha =>
    intro v hf h
    obtain ⟨b0, x, rfl, _, hb0, hblk, ha⟩ := h
    exact ⟨rfl, rfl, rfl, ⟨rfl, rfl, .inl rfl⟩, b0, 0, x, rfl, hb0, at6_one hblk, iha x hf ha⟩
set_option maxHeartbeats 1600000 in
theorem isNoNum_b (y : Rv) (w : World) (h : Blk w y) : Calls Tryz.prog 79 #[.agg #[.bool y.s, .slice y.A y.n y.c, .slice y.B y.m y.d]] w fun e w' => e = .returned (.bool true) ∧ Below w.heap.size w w' := by
  have hrw := blk_rw (p := 400) h (by omega)
  obtain ⟨hs, hn, hm⟩ := h
  have k_y := C3.new w (.bool y.s) (.slice y.A y.n y.c) (.slice y.B y.m y.d)
  have hb0 := (Below.refl w.heap.size w).alloc (Nat.le_refl _) (.cells #[.bool y.s, .slice y.A y.n y.c, .slice y.B y.m y.d] 24)
  obtain ⟨q0, q1, q2, q3, q4, q5⟩ := k_y.facts
  have i1 : (y.n : Int) = 0 := by omega
  have j1 : ((y.n : Int) == 0) = true := by rw [beq_iff_eq]; exact i1
  by_cases hm0 : y.m = 0
  · have i2 : (y.m : Int) = 0 := by omega
    have j2 : ((y.m : Int) == 0) = true := by rw [beq_iff_eq]; exact i2
    clear hs hn hm hm0 i1 i2
    go_enter Tryz.func79, Tryz.ntmps79
    go_wp2
    go_ret
    exact ⟨rfl, hb0⟩
  · have i2 : ¬ (y.m : Int) = 0 := by omega
    have j2 : ((y.m : Int) == 0) = false := beq_eq_false_iff_ne.2 i2
    have hr := hm.resolve_left hm0
    have hN := isN_rt hr
    have HZ : Hid (∀ w', Below w.heap.size w w' → Calls Tryz.prog 92 #[.agg #[.bool y.s, .slice y.A y.n y.c, .slice y.B y.m y.d]] w' fun e w'' => e = .returned (.bool true) ∧ Below w'.heap.size w' w'') := fun w' hb => (Zero_any y 0 w' ((hrw.below hb).more (by omega))).mono fun e w'' ⟨he, h2⟩ => ⟨by rw [he, decide_eq_true rfl], h2⟩
    have HI : Hid (∀ w', Below w.heap.size w w' → Calls Tryz.prog 90 #[.agg #[.bool y.s, .slice y.A y.n y.c, .slice y.B y.m y.d]] w' fun e w'' => e = .returned (.bool true) ∧ Below w'.heap.size w' w'') := fun w' hb => Is_c y _ _ true w' hr.numCap hr.denCap (by have := hrw.numLe; omega) (by have := hrw.denLe; omega) ((hr.num.lower (Nat.zero_le _)).below hb) ((hr.den.lower (Nat.zero_le _)).below hb) ⟨fun _ => by have := hN; rwa [hr.sign] at this ⊢, fun _ => rfl⟩
    clear hr hN hrw hn hm hm0 i1 i2 hs
    go_enter Tryz.func79, Tryz.ntmps79
    go_wp2_with fail
    refine (HZ.out _ hb0).mono ?_
    rintro e w1 ⟨rfl, hb1⟩
    replace k_y := k_y.below hb1
    replace hb0 := hb0.trans (hb1.mono hb0.size)
    clear hb1 q0 q1 q2 q3 q4 q5
    obtain ⟨q0, q1, q2, q3, q4, q5⟩ := k_y.facts
    go_wp2_with fail
    refine (HI.out _ hb0).mono ?_
    rintro e w2 ⟨rfl, hb1⟩
    replace hb0 := hb0.trans (hb1.mono hb0.size)
    clear hb1 q0 q1 q2 q3 q4 q5
    go_wp2
    go_ret
    exact ⟨rfl, hb0⟩
set_option maxHeartbeats 1600000 in
theorem gNode_neg (y : Rv) (A : Option Addr) (c : Nat) (w : World) (hy : Blk w y) :
    Calls Tryz.prog 64 #[.agg #[.int .i64 7, .bool y.s, .slice y.A y.n y.c, .slice y.B y.m y.d, .string ⟨#[]⟩, .slice A 1 c]] w fun e w' => e = .returned (.bool true) ∧ Below w.heap.size w w' := by
  have hk := C6.new w (.int .i64 7) (.bool y.s) (.slice y.A y.n y.c) (.slice y.B y.m y.d) (.string ⟨#[]⟩) (.slice A 1 c)
  have hb0 := (Below.refl w.heap.size w).alloc (Nat.le_refl _) (.cells #[.int .i64 7, .bool y.s, .slice y.A y.n y.c, .slice y.B y.m y.d, .string ⟨#[]⟩, .slice A 1 c] 27)
  generalize hW : w.alloc (.cells #[.int .i64 7, .bool y.s, .slice y.A y.n y.c, .slice y.B y.m y.d, .string ⟨#[]⟩, .slice A 1 c] 27) = w1 at *
  obtain ⟨q0, q1, q2, q3, q4, q5⟩ := hk.facts
  go_enter Tryz.func64, Tryz.ntmps64
  go_wp2_with fail
  first | rw [hW] | skip
  refine (isNoNum_b y _ (hy.below hb0)).mono ?_
  rintro e w2 ⟨rfl, hb⟩
  replace hk := hk.below hb
  replace hb0 := hb0.trans (hb.mono hb0.size)
  clear hb q0 q1 q2 q3 q4 q5
  obtain ⟨q0, q1, q2, q3, q4, q5⟩ := hk.facts
  go_wp2
  go_ret
  exact ⟨rfl, hb0⟩
set_option maxHeartbeats 1600000 in
theorem gNode_bin3 (y : Rv) (A : Option Addr) (c : Nat) (w : World) (hy : Blk w y) :
    Calls Tryz.prog 64 #[.agg #[.int .i64 3, .bool y.s, .slice y.A y.n y.c, .slice y.B y.m y.d, .string ⟨#[]⟩, .slice A 2 c]] w fun e w' => e = .returned (.bool true) ∧ Below w.heap.size w w' := by
  have hk := C6.new w (.int .i64 3) (.bool y.s) (.slice y.A y.n y.c) (.slice y.B y.m y.d) (.string ⟨#[]⟩) (.slice A 2 c)
  have hb0 := (Below.refl w.heap.size w).alloc (Nat.le_refl _) (.cells #[.int .i64 3, .bool y.s, .slice y.A y.n y.c, .slice y.B y.m y.d, .string ⟨#[]⟩, .slice A 2 c] 27)
  generalize hW : w.alloc (.cells #[.int .i64 3, .bool y.s, .slice y.A y.n y.c, .slice y.B y.m y.d, .string ⟨#[]⟩, .slice A 2 c] 27) = w1 at *
  obtain ⟨q0, q1, q2, q3, q4, q5⟩ := hk.facts
  go_enter Tryz.func64, Tryz.ntmps64
  go_wp2_with fail
  first | rw [hW] | skip
  refine (isNoNum_b y _ (hy.below hb0)).mono ?_
  rintro e w2 ⟨rfl, hb⟩
  replace hk := hk.below hb
  replace hb0 := hb0.trans (hb.mono hb0.size)
  clear hb q0 q1 q2 q3 q4 q5
  obtain ⟨q0, q1, q2, q3, q4, q5⟩ := hk.facts
  go_wp2
  go_ret
  exact ⟨rfl, hb0⟩
set_option maxHeartbeats 1600000 in
theorem gNode_bin4 (y : Rv) (A : Option Addr) (c : Nat) (w : World) (hy : Blk w y) :
    Calls Tryz.prog 64 #[.agg #[.int .i64 4, .bool y.s, .slice y.A y.n y.c, .slice y.B y.m y.d, .string ⟨#[]⟩, .slice A 2 c]] w fun e w' => e = .returned (.bool true) ∧ Below w.heap.size w w' := by
  have hk := C6.new w (.int .i64 4) (.bool y.s) (.slice y.A y.n y.c) (.slice y.B y.m y.d) (.string ⟨#[]⟩) (.slice A 2 c)
  have hb0 := (Below.refl w.heap.size w).alloc (Nat.le_refl _) (.cells #[.int .i64 4, .bool y.s, .slice y.A y.n y.c, .slice y.B y.m y.d, .string ⟨#[]⟩, .slice A 2 c] 27)
  generalize hW : w.alloc (.cells #[.int .i64 4, .bool y.s, .slice y.A y.n y.c, .slice y.B y.m y.d, .string ⟨#[]⟩, .slice A 2 c] 27) = w1 at *
  obtain ⟨q0, q1, q2, q3, q4, q5⟩ := hk.facts
  go_enter Tryz.func64, Tryz.ntmps64
  go_wp2_with fail
  first | rw [hW] | skip
  refine (isNoNum_b y _ (hy.below hb0)).mono ?_
  rintro e w2 ⟨rfl, hb⟩
  replace hk := hk.below hb
  replace hb0 := hb0.trans (hb.mono hb0.size)
  clear hb q0 q1 q2 q3 q4 q5
  obtain ⟨q0, q1, q2, q3, q4, q5⟩ := hk.facts
  go_wp2
  go_ret
  exact ⟨rfl, hb0⟩
set_option maxHeartbeats 1600000 in
theorem gNode_bin5 (y : Rv) (A : Option Addr) (c : Nat) (w : World) (hy : Blk w y) :
    Calls Tryz.prog 64 #[.agg #[.int .i64 5, .bool y.s, .slice y.A y.n y.c, .slice y.B y.m y.d, .string ⟨#[]⟩, .slice A 2 c]] w fun e w' => e = .returned (.bool true) ∧ Below w.heap.size w w' := by
  have hk := C6.new w (.int .i64 5) (.bool y.s) (.slice y.A y.n y.c) (.slice y.B y.m y.d) (.string ⟨#[]⟩) (.slice A 2 c)
  have hb0 := (Below.refl w.heap.size w).alloc (Nat.le_refl _) (.cells #[.int .i64 5, .bool y.s, .slice y.A y.n y.c, .slice y.B y.m y.d, .string ⟨#[]⟩, .slice A 2 c] 27)
  generalize hW : w.alloc (.cells #[.int .i64 5, .bool y.s, .slice y.A y.n y.c, .slice y.B y.m y.d, .string ⟨#[]⟩, .slice A 2 c] 27) = w1 at *
  obtain ⟨q0, q1, q2, q3, q4, q5⟩ := hk.facts
  go_enter Tryz.func64, Tryz.ntmps64
  go_wp2_with fail
  first | rw [hW] | skip
  refine (isNoNum_b y _ (hy.below hb0)).mono ?_
  rintro e w2 ⟨rfl, hb⟩
  replace hk := hk.below hb
  replace hb0 := hb0.trans (hb.mono hb0.size)
  clear hb q0 q1 q2 q3 q4 q5
  obtain ⟨q0, q1, q2, q3, q4, q5⟩ := hk.facts
  go_wp2
  go_ret
  exact ⟨rfl, hb0⟩
set_option maxHeartbeats 1600000 in
theorem gNode_bin6 (y : Rv) (A : Option Addr) (c : Nat) (w : World) (hy : Blk w y) :
    Calls Tryz.prog 64 #[.agg #[.int .i64 6, .bool y.s, .slice y.A y.n y.c, .slice y.B y.m y.d, .string ⟨#[]⟩, .slice A 2 c]] w fun e w' => e = .returned (.bool true) ∧ Below w.heap.size w w' := by
  have hk := C6.new w (.int .i64 6) (.bool y.s) (.slice y.A y.n y.c) (.slice y.B y.m y.d) (.string ⟨#[]⟩) (.slice A 2 c)
  have hb0 := (Below.refl w.heap.size w).alloc (Nat.le_refl _) (.cells #[.int .i64 6, .bool y.s, .slice y.A y.n y.c, .slice y.B y.m y.d, .string ⟨#[]⟩, .slice A 2 c] 27)
  generalize hW : w.alloc (.cells #[.int .i64 6, .bool y.s, .slice y.A y.n y.c, .slice y.B y.m y.d, .string ⟨#[]⟩, .slice A 2 c] 27) = w1 at *
  obtain ⟨q0, q1, q2, q3, q4, q5⟩ := hk.facts
  go_enter Tryz.func64, Tryz.ntmps64
  go_wp2_with fail
  first | rw [hW] | skip
  refine (isNoNum_b y _ (hy.below hb0)).mono ?_
  rintro e w2 ⟨rfl, hb⟩
  replace hk := hk.below hb
  replace hb0 := hb0.trans (hb.mono hb0.size)
  clear hb q0 q1 q2 q3 q4 q5
  obtain ⟨q0, q1, q2, q3, q4, q5⟩ := hk.facts
  go_wp2
  go_ret
  exact ⟨rfl, hb0⟩
set_option maxHeartbeats 1600000 in
theorem gNode_num (y : Rv) (K : Option Addr) (c : Nat) (r : Rat) (b : Bool) (lo : Nat) (hbb : b = true ↔ NumOk r) (w : World) (h : Rt w lo y r) (ht : Tb w) :
    Calls Tryz.prog 64 #[.agg #[.int .i64 1, .bool y.s, .slice y.A y.n y.c, .slice y.B y.m y.d, .string ⟨#[]⟩, .slice K 0 c]] w fun e w' => e = .returned (.bool b) ∧ Below w.heap.size w w' := by
  have hb := Lib.hid hbb
  clear hbb
  replace h := h.below ((Below.refl w.heap.size w).alloc (Nat.le_refl _) (.cells #[.int .i64 1, .bool y.s, .slice y.A y.n y.c, .slice y.B y.m y.d, .string ⟨#[]⟩, .slice K 0 c] 27))
  replace ht := ht.below ((Below.refl w.heap.size w).alloc (Nat.le_refl _) (.cells #[.int .i64 1, .bool y.s, .slice y.A y.n y.c, .slice y.B y.m y.d, .string ⟨#[]⟩, .slice K 0 c] 27))
  have hk := C6.new w (.int .i64 1) (.bool y.s) (.slice y.A y.n y.c) (.slice y.B y.m y.d) (.string ⟨#[]⟩) (.slice K 0 c)
  have hb0 := (Below.refl w.heap.size w).alloc (Nat.le_refl _) (.cells #[.int .i64 1, .bool y.s, .slice y.A y.n y.c, .slice y.B y.m y.d, .string ⟨#[]⟩, .slice K 0 c] 27)
  generalize hW : w.alloc (.cells #[.int .i64 1, .bool y.s, .slice y.A y.n y.c, .slice y.B y.m y.d, .string ⟨#[]⟩, .slice K 0 c] 27) = w1 at *
  obtain ⟨q0, q1, q2, q3, q4, q5⟩ := hk.facts
  go_enter Tryz.func64, Tryz.ntmps64
  go_wp2_with fail
  first | rw [hW] | skip
  refine (isNum_c y r b lo _ h ht hb.out).mono ?_
  rintro e w2 ⟨rfl, hbw⟩
  replace hk := hk.below hbw
  replace hb0 := hb0.trans (hbw.mono hb0.size)
  clear q0 q1 q2 q3 q4 q5
  obtain ⟨q0, q1, q2, q3, q4, q5⟩ := hk.facts
  clear hb
  cases b with
  | true =>
    go_wp2
    go_ret
    exact ⟨rfl, hb0⟩
  | false =>
    go_wp2
    go_ret
    exact ⟨rfl, hb0⟩
set_option maxHeartbeats 1600000 in
theorem gNode_nm (y : Rv) (s : ByteArray) (K : Option Addr) (c : Nat) (w : World) (hy : Blk w y) :
    Calls Tryz.prog 64 #[.agg #[.int .i64 2, .bool y.s, .slice y.A y.n y.c, .slice y.B y.m y.d, .string s, .slice K 0 c]] w fun e w' => e = .returned (.bool (isName s)) ∧ Below w.heap.size w w' := by
  have hk := C6.new w (.int .i64 2) (.bool y.s) (.slice y.A y.n y.c) (.slice y.B y.m y.d) (.string s) (.slice K 0 c)
  have hb0 := (Below.refl w.heap.size w).alloc (Nat.le_refl _) (.cells #[.int .i64 2, .bool y.s, .slice y.A y.n y.c, .slice y.B y.m y.d, .string s, .slice K 0 c] 27)
  generalize hW : w.alloc (.cells #[.int .i64 2, .bool y.s, .slice y.A y.n y.c, .slice y.B y.m y.d, .string s, .slice K 0 c] 27) = w1 at *
  obtain ⟨q0, q1, q2, q3, q4, q5⟩ := hk.facts
  go_enter Tryz.func64, Tryz.ntmps64
  go_wp2_with fail
  first | rw [hW] | skip
  refine (isNoNum_b y _ (hy.below hb0)).mono ?_
  rintro e w2 ⟨rfl, hb⟩
  replace hk := hk.below hb
  replace hb0 := hb0.trans (hb.mono hb0.size)
  clear hb q0 q1 q2 q3 q4 q5
  obtain ⟨q0, q1, q2, q3, q4, q5⟩ := hk.facts
  go_wp2_with fail
  refine (Name_c s _).mono ?_
  rintro e w' ⟨rfl, rfl⟩
  cases hn : isName s with
  | true =>
    have HN := Lib.hid hn
    clear hn
    go_wp2
    go_ret
    exact ⟨by first | rfl | (rw [HN.out]; rfl), hb0⟩
  | false =>
    have HN := Lib.hid hn
    clear hn
    go_wp2
    go_ret
    exact ⟨by first | rfl | (rw [HN.out]; rfl), hb0⟩
set_option maxHeartbeats 8000000 in
theorem gmay_step {w0 w : World} {q b0 off n d l : Nat} {v : Ev} (nb : Bool) (t : Ex) (xs : Nat → Ev) (ks : Nat → Ex)
    (hnode : ∀ w', Below w.heap.size w w' → Calls Tryz.prog 64 #[.agg #[.int .i64 v.k, .bool v.r.s, .slice v.r.A v.r.n v.r.c, .slice v.r.B v.r.m v.r.d, .string v.s, .slice v.K v.n v.c]] w' fun e w'' => e = .returned (.bool nb) ∧ Below w'.heap.size w' w'')
    (hv : v.K = some ⟨b0, off, none⟩) (hn : v.n = n) (hn2 : n ≤ 2) (hpos : 0 < n) (hbq : b0 ≠ q) (hb0 : b0 < w.heap.size)
    (hx : ∀ i, i < n → At6 w b0 (off + i * 6) (xs i))
    (IH : ∀ i, i < n → ∀ x, xs i = x → ∀ (w1 : World) (d l : Nat), IC w0 q w1 l → But q w w1 → d ≤ 1000 → l ≤ 1000 → Calls Tryz.prog 44 #[.agg #[.int .i64 x.k, .bool x.r.s, .slice x.r.A x.r.n x.r.c, .slice x.r.B x.r.m x.r.d, .string x.s, .slice x.K x.n x.c], .int .i64 d, .pointer (some ⟨q, 0, none⟩)] w1 (MB w0 q w1 (ks i) d l))
    (hiff : t.may d l ↔ nb = true ∧ 0 < d ∧ 0 < l ∧ (∀ i, i < n → (ks i).fine ∧ (ks i).deep ≤ d - 1) ∧ 1 + sumN ks n ≤ l) (hnn : t.nodes = 1 + sumN ks n)
    (hI : IC w0 q w l) (hd : d ≤ 1000) (hl : l ≤ 1000) :
    Calls Tryz.prog 44 #[.agg #[.int .i64 v.k, .bool v.r.s, .slice v.r.A v.r.n v.r.c, .slice v.r.B v.r.m v.r.d, .string v.s, .slice v.K v.n v.c], .int .i64 d, .pointer (some ⟨q, 0, none⟩)] w (MB w0 q w t d l) := by
  obtain ⟨vk, vr, vs, vK, vn, vc⟩ := v
  dsimp only at hv hn
  subst hv; subst hn
  have hq := hI.lt
  have HIFF := Lib.hid hiff
  clear hiff
  by_cases hd0 : d = 0
  · subst hd0
    go_enter Tryz.func44, Tryz.ntmps44
    go_wp2
    go_ret
    exact ⟨false, l, rfl, ⟨fun h => Bool.noConfusion h, fun h => absurd (HIFF.out.1 h).2.1 (by omega)⟩, fun h => Bool.noConfusion h, hI.alloc _, (But.refl _ _).alloc _⟩
  · have i1 : ¬ (d : Int) = 0 := by omega
    have j1 : ((d : Int) == 0) = false := beq_eq_false_iff_ne.2 i1
    obtain ⟨h0, f0⟩ := hI.facts
    by_cases hl0 : l = 0
    · subst hl0
      go_enter Tryz.func44, Tryz.ntmps44
      go_wp2
      go_ret
      exact ⟨false, 0, rfl, ⟨fun h => Bool.noConfusion h, fun h => absurd (HIFF.out.1 h).2.2.1 (by omega)⟩, fun h => Bool.noConfusion h, hI.alloc _, (But.refl _ _).alloc _⟩
    · have i2 : ¬ (l : Int) = 0 := by omega
      have j2 : ((l : Int) == 0) = false := beq_eq_false_iff_ne.2 i2
      clear hd0 hl0
      go_enter Tryz.func44, Tryz.ntmps44
      go_wp2_with fail
      have hIa := hI.alloc (.cells #[.int .i64 vk, .bool vr.s, .slice vr.A vr.n vr.c, .slice vr.B vr.m vr.d, .string vs, .slice (some ⟨b0, off, none⟩) vn vc] 27)
      have hba := (But.refl q w).alloc (.cells #[.int .i64 vk, .bool vr.s, .slice vr.A vr.n vr.c, .slice vr.B vr.m vr.d, .string vs, .slice (some ⟨b0, off, none⟩) vn vc] 27)
      have k_e := C6.new w (.int .i64 vk) (.bool vr.s) (.slice vr.A vr.n vr.c) (.slice vr.B vr.m vr.d) (.string vs) (.slice (some ⟨b0, off, none⟩) vn vc)
      have hz : (w.alloc (.cells #[.int .i64 vk, .bool vr.s, .slice vr.A vr.n vr.c, .slice vr.B vr.m vr.d, .string vs, .slice (some ⟨b0, off, none⟩) vn vc] 27)).heap.size = w.heap.size + 1 := by simp
      refine (hnode _ ((Below.refl _ _).alloc (Nat.le_refl _) _)).mono ?_
      rintro e w2 ⟨rfl, hb⟩
      replace hIa := hIa.next hb
      replace hba := hba.trans (.of hb)
      replace k_e := k_e.below hb
      have hz2 := hb.size
      clear hb h0 f0 hnode
      obtain ⟨h0, f0⟩ := hIa.facts
      obtain ⟨e0, e1, e2, e3, e4, e5⟩ := k_e.facts
      cases nb with
      | false =>
        go_wp2
        go_ret
        exact ⟨false, l, rfl, ⟨fun h => Bool.noConfusion h, fun h => absurd (HIFF.out.1 h).1 (by decide)⟩, fun h => Bool.noConfusion h, hIa, hba⟩
      | true =>
        have i3 : (0 : Int) < (l : Int) := by omega
        have i4 : (0 : Int) < (d : Int) := by omega
        have i5 : (d : Int) ≤ 1000 := by omega
        have i6 : (l : Int) ≤ 1000 := by omega
        have l1 : 1 ≤ l := by omega
        have d1 : 1 ≤ d := by omega
        go_wp2
        have hI1 := hIa.set (m := l - 1) (v := (l : Int) - 1) (by omega)
        have hb1 := hba.set 0 (.int .i64 ((l : Int) - 1))
        have k_1 := k_e.setOther (g := q) (by omega) 0 (.int .i64 ((l : Int) - 1))
        clear h0 f0 e0 e1 e2 e3 e4 e5 hIa hba k_e i2 j2 i3 i6
        generalize w2.setCell ⟨q, 0, none⟩ (.int .i64 ((l : Int) - 1)) = w3 at *
        go_loopw [30] (fun iv wr => ∃ (i l' : Nat), i ≤ vn ∧ iv = .int .i64 i ∧ IC w0 q wr l' ∧ But q w wr ∧ Hid (∀ j, j < i → (ks j).fine ∧ (ks j).deep ≤ d - 1) ∧ l' + 1 + sumN ks i = l) (fun iv _ => vn - (intOf iv).toNat)
        case atStart => exact ⟨0, l - 1, Nat.zero_le _, rfl, hI1, hb1, fun j h => absurd h (by omega), by show l - 1 + 1 + 0 = l; omega⟩
        case round =>
          obtain ⟨i, l', hi, rfl, hIr, hbr, HJ, hsum⟩ := hrel
          have a0 : (0 : Int) ≤ (i : Int) := by omega
          by_cases hlt : i < vn
          · have a1 : (i : Int) < (vn : Int) := by omega
            have hx6 := (hx i hlt).keep (hbr.block b0 hb0 hbq)
            have HI := IH i hlt
            obtain ⟨x, hxi⟩ : ∃ x, Hid (xs i = x) := ⟨_, rfl⟩
            rw [hxi.out] at hx6
            obtain ⟨y0, y1, y2, y3, y4, y5⟩ := hx6
            go_wp2_with fail
            have hd1 : (d : Int) - 1 = ((d - 1 : Nat) : Int) := by omega
            rw [hd1]
            clear hd1 y0 y1 y2 y3 y4 y5
            refine (HI x hxi.out _ (d - 1) l' (hIr.alloc _) (hbr.alloc _) (by omega) (by omega)).mono ?_
            rintro e w4 ⟨b, l2, rfl, hbi, hbl, hI4, hb4⟩
            have hb5 := (hbr.alloc _).trans hb4
            cases b with
            | false =>
              have hno : Hid (¬ t.may d l) := by
                intro h
                have h5 := HIFF.out.1 h
                have h6 := h5.2.2.2.1 i hlt
                have h7 := sumN_mono ks hlt
                have h8 := h5.2.2.2.2
                have h9 : ¬ (ks i).nodes ≤ l' := fun h => Bool.noConfusion (hbi.2 ⟨h6.1, h6.2, h⟩)
                rw [show sumN ks (i + 1) = sumN ks i + (ks i).nodes from rfl] at h7
                omega
              clear hbi hbl hb4
              go_wp2
              go_ret
              exact ⟨false, l2, rfl, ⟨fun h => Bool.noConfusion h, fun h => absurd h hno.out⟩, fun h => Bool.noConfusion h, hI4, hb5⟩
            | true =>
              have hk := hbi.1 rfl
              have hm := hbl rfl
              have HJ2 : Hid (∀ j, j < i + 1 → (ks j).fine ∧ (ks j).deep ≤ d - 1) := fun j hj => by
                by_cases h : j = i
                · subst h; exact ⟨hk.1, hk.2.1⟩
                · exact HJ.out j (by omega)
              have hs2 : l2 + 1 + sumN ks (i + 1) = l := by unfold sumN; omega
              have a2 : (i : Int) ≤ 2 := by omega
              clear hbi hbl hb4 hk hm
              go_wp2
              go_roundw
              case rel => exact ⟨i + 1, l2, by omega, by go_num, hI4, hb5, HJ2, hs2⟩
              case measure => simp [intOf]; omega
          · have e : i = vn := by omega
            have a1 : ¬ (i : Int) < (vn : Int) := by omega
            subst e
            have HY : Hid (t.may d l) := HIFF.out.2 ⟨by first | rfl | trivial, by omega, by omega, HJ.out, by omega⟩
            have HN : Hid (l' + t.nodes = l) := by show _ = _; omega
            clear hsum hnn
            go_wp2
            go_ret
            exact ⟨true, l', rfl, ⟨fun _ => HY.out, fun _ => rfl⟩, fun _ => HN.out, hIr, hbr⟩
set_option maxHeartbeats 8000000 in
theorem gmay_leaf {w0 w : World} {q d l : Nat} {v : Ev} (nb : Bool) (t : Ex)
    (hnode : ∀ w', Below w.heap.size w w' → Calls Tryz.prog 64 #[.agg #[.int .i64 v.k, .bool v.r.s, .slice v.r.A v.r.n v.r.c, .slice v.r.B v.r.m v.r.d, .string v.s, .slice v.K v.n v.c]] w' fun e w'' => e = .returned (.bool nb) ∧ Below w'.heap.size w' w'')
    (hn : v.n = 0)
    (hiff : t.may d l ↔ nb = true ∧ 0 < d ∧ 0 < l) (hnn : t.nodes = 1)
    (hI : IC w0 q w l) (hd : d ≤ 1000) (hl : l ≤ 1000) :
    Calls Tryz.prog 44 #[.agg #[.int .i64 v.k, .bool v.r.s, .slice v.r.A v.r.n v.r.c, .slice v.r.B v.r.m v.r.d, .string v.s, .slice v.K v.n v.c], .int .i64 d, .pointer (some ⟨q, 0, none⟩)] w (MB w0 q w t d l) := by
  obtain ⟨vk, vr, vs, vK, vn, vc⟩ := v
  dsimp only at hn
  subst hn
  have hq := hI.lt
  have HIFF := Lib.hid hiff
  clear hiff
  by_cases hd0 : d = 0
  · subst hd0
    go_enter Tryz.func44, Tryz.ntmps44
    go_wp2
    go_ret
    exact ⟨false, l, rfl, ⟨fun h => Bool.noConfusion h, fun h => absurd (HIFF.out.1 h).2.1 (by omega)⟩, fun h => Bool.noConfusion h, hI.alloc _, (But.refl _ _).alloc _⟩
  · have i1 : ¬ (d : Int) = 0 := by omega
    have j1 : ((d : Int) == 0) = false := beq_eq_false_iff_ne.2 i1
    obtain ⟨h0, f0⟩ := hI.facts
    by_cases hl0 : l = 0
    · subst hl0
      go_enter Tryz.func44, Tryz.ntmps44
      go_wp2
      go_ret
      exact ⟨false, 0, rfl, ⟨fun h => Bool.noConfusion h, fun h => absurd (HIFF.out.1 h).2.2 (by omega)⟩, fun h => Bool.noConfusion h, hI.alloc _, (But.refl _ _).alloc _⟩
    · have i2 : ¬ (l : Int) = 0 := by omega
      have j2 : ((l : Int) == 0) = false := beq_eq_false_iff_ne.2 i2
      clear hd0 hl0
      go_enter Tryz.func44, Tryz.ntmps44
      go_wp2_with fail
      have hIa := hI.alloc (.cells #[.int .i64 vk, .bool vr.s, .slice vr.A vr.n vr.c, .slice vr.B vr.m vr.d, .string vs, .slice vK 0 vc] 27)
      have hba := (But.refl q w).alloc (.cells #[.int .i64 vk, .bool vr.s, .slice vr.A vr.n vr.c, .slice vr.B vr.m vr.d, .string vs, .slice vK 0 vc] 27)
      have k_e := C6.new w (.int .i64 vk) (.bool vr.s) (.slice vr.A vr.n vr.c) (.slice vr.B vr.m vr.d) (.string vs) (.slice vK 0 vc)
      have hz : (w.alloc (.cells #[.int .i64 vk, .bool vr.s, .slice vr.A vr.n vr.c, .slice vr.B vr.m vr.d, .string vs, .slice vK 0 vc] 27)).heap.size = w.heap.size + 1 := by simp
      refine (hnode _ ((Below.refl _ _).alloc (Nat.le_refl _) _)).mono ?_
      rintro e w2 ⟨rfl, hb⟩
      replace hIa := hIa.next hb
      replace hba := hba.trans (.of hb)
      replace k_e := k_e.below hb
      have hz2 := hb.size
      clear hb h0 f0 hnode
      obtain ⟨h0, f0⟩ := hIa.facts
      obtain ⟨e0, e1, e2, e3, e4, e5⟩ := k_e.facts
      cases nb with
      | false =>
        go_wp2
        go_ret
        exact ⟨false, l, rfl, ⟨fun h => Bool.noConfusion h, fun h => absurd (HIFF.out.1 h).1 (by decide)⟩, fun h => Bool.noConfusion h, hIa, hba⟩
      | true =>
        have i3 : (0 : Int) < (l : Int) := by omega
        have i4 : (0 : Int) < (d : Int) := by omega
        have i5 : (d : Int) ≤ 1000 := by omega
        have i6 : (l : Int) ≤ 1000 := by omega
        have l1 : 1 ≤ l := by omega
        have d1 : 1 ≤ d := by omega
        go_wp2
        have hI1 := hIa.set (m := l - 1) (v := (l : Int) - 1) (by omega)
        have hb1 := hba.set 0 (.int .i64 ((l : Int) - 1))
        have k_1 := k_e.setOther (g := q) (by omega) 0 (.int .i64 ((l : Int) - 1))
        clear h0 f0 e0 e1 e2 e3 e4 e5 hIa hba k_e i2 j2 i3 i6
        generalize w2.setCell ⟨q, 0, none⟩ (.int .i64 ((l : Int) - 1)) = w3 at *
        go_loopw [30] (fun iv wr => iv = .int .i64 0 ∧ IC w0 q wr (l - 1) ∧ But q w wr) (fun _ _ => 0)
        case atStart => exact ⟨rfl, hI1, hb1⟩
        case round =>
          obtain ⟨rfl, hIr, hbr⟩ := hrel
          have HY : Hid (t.may d l) := HIFF.out.2 ⟨by first | rfl | trivial, by omega, by omega⟩
          have HN : Hid (l - 1 + t.nodes = l) := by show _ = _; omega
          clear hnn
          go_wp2
          go_ret
          exact ⟨true, l - 1, rfl, ⟨fun _ => HY.out, fun _ => rfl⟩, fun _ => HN.out, hIr, hbr⟩

theorem gmay_c {w0 : World} {q : Nat} (ht0 : Tb w0) : ∀ (t : Ex), t.wf → ∀ (v : Ev) (w : World) (d l : Nat), Tg w0 t v → IC w0 q w l → d ≤ 1000 → l ≤ 1000 →
    Calls Tryz.prog 44 #[.agg #[.int .i64 v.k, .bool v.r.s, .slice v.r.A v.r.n v.r.c, .slice v.r.B v.r.m v.r.d, .string v.s, .slice v.K v.n v.c], .int .i64 d, .pointer (some ⟨q, 0, none⟩)] w (MB w0 q w t d l) := by
  intro t
  induction t with
  | bad => exact fun _ v w d l h => h.elim
  | num r =>
    intro _ v w d l hv hI hd hl
    obtain ⟨vk, y, st, K, n, c⟩ := v
    obtain ⟨h1, h2, h3, hr⟩ := hv
    dsimp only at h1 h2 h3 hr
    subst h1; subst h2; subst h3
    obtain ⟨b, hb⟩ : ∃ b : Bool, b = true ↔ NumOk r := by
      by_cases h : NumOk r
      · exact ⟨true, fun _ => h, fun _ => rfl⟩
      · exact ⟨false, fun h => Bool.noConfusion h, fun h1 => absurd h1 h⟩
    refine gmay_leaf b (.num r) (fun w' hw => gNode_num y K c r b 0 hb w' ((hr.below hI.below).below hw) ((ht0.below hI.below).below hw)) rfl ?_ rfl hI hd hl
    rw [hb]
    exact ⟨fun h => ⟨h.1, h.2.1, h.2.2⟩, fun h => ⟨h.1, h.2.1, h.2.2⟩⟩
  | nm s =>
    intro _ v w d l hv hI hd hl
    obtain ⟨vk, y, st, K, n, c⟩ := v
    obtain ⟨h1, h2, h3, hr⟩ := hv
    dsimp only at h1 h2 h3 hr
    subst h1; subst h2; subst h3
    exact gmay_leaf (isName st) (.nm st) (fun w' hw => gNode_nm y st K c w' ((hr.below hI.below).below hw)) rfl ⟨fun h => ⟨h.1, h.2.1, h.2.2⟩, fun h => ⟨h.1, h.2.1, h.2.2⟩⟩ rfl hI hd hl
  | bin k a b iha ihb =>
    intro hw v w d l hv hI hd hl
    obtain ⟨hk, wa, wb⟩ := hw
    obtain ⟨vk, y, st, K, n, c⟩ := v
    obtain ⟨h1, h2, h3, hr, b0, off, p, z, h5, h6, h7, h8, h9, h10⟩ := hv
    dsimp only at h1 h2 h3 hr h5
    subst h1; subst h2; subst h3; subst h5
    have hq := hI.ge
    refine gmay_step (b0 := b0) (off := off) (n := 2) true (.bin k a b) (two_ p z) (two_ a b) ?_ rfl rfl (by omega) (by omega) (by omega) (Nat.lt_of_lt_of_le h6 hI.below.size) ?_ ?_ ?_ ?_ hI hd hl
    · intro w' hw
      rcases hk with rfl | rfl | rfl | rfl
      · exact gNode_bin3 y _ c w' ((hr.below hI.below).below hw)
      · exact gNode_bin4 y _ c w' ((hr.below hI.below).below hw)
      · exact gNode_bin5 y _ c w' ((hr.below hI.below).below hw)
      · exact gNode_bin6 y _ c w' ((hr.below hI.below).below hw)
    · intro i hi
      rcases i with _ | _ | i
      · exact h7.keep (hI.below.block b0 h6)
      · exact h8.keep (hI.below.block b0 h6)
      · omega
    · intro i hi x hx w1 d l hI1 hb1 hd hl
      rcases i with _ | _ | i
      · subst hx; exact iha wa p w1 d l h9 hI1 hd hl
      · subst hx; exact ihb wb z w1 d l h10 hI1 hd hl
      · omega
    · show (a.fine ∧ b.fine) ∧ (max a.deep b.deep + 1 ≤ d) ∧ 1 + a.nodes + b.nodes ≤ l ↔ _
      have s2 : sumN (two_ a b) 2 = 0 + a.nodes + b.nodes := rfl
      have n1 := a.nodes_pos
      rw [s2]
      constructor
      · rintro ⟨⟨h1, h2⟩, h3, h4⟩
        refine ⟨rfl, by omega, by omega, fun i hi => ?_, by omega⟩
        rcases i with _ | _ | i
        · exact ⟨h1, by show a.deep ≤ d - 1; omega⟩
        · exact ⟨h2, by show b.deep ≤ d - 1; omega⟩
        · omega
      · rintro ⟨_, h1, h2, h3, h4⟩
        have e0 : a.fine ∧ a.deep ≤ d - 1 := h3 0 (by omega)
        have e1 : b.fine ∧ b.deep ≤ d - 1 := h3 1 (by omega)
        exact ⟨⟨e0.1, e1.1⟩, by have := e0.2; have := e1.2; omega, by omega⟩
    · show 1 + a.nodes + b.nodes = 1 + (0 + a.nodes + b.nodes)
      omega
  | neg a iha =>
    intro hw v w d l hv hI hd hl
    obtain ⟨vk, y, st, K, n, c⟩ := v
    obtain ⟨h1, h2, h3, hr, b0, off, p, h5, h6, h7, h8⟩ := hv
    dsimp only at h1 h2 h3 hr h5
    subst h1; subst h2; subst h3; subst h5
    have hq := hI.ge
    refine gmay_step (b0 := b0) (off := off) (n := 1) true (.neg a) (fun _ => p) (fun _ => a) ?_ rfl rfl (by omega) (by omega) (by omega) (Nat.lt_of_lt_of_le h6 hI.below.size) ?_ ?_ ?_ ?_ hI hd hl
    · exact fun w' hw => gNode_neg y _ c w' ((hr.below hI.below).below hw)
    · intro i hi
      rcases i with _ | i
      · exact h7.keep (hI.below.block b0 h6)
      · omega
    · intro i hi x hx w1 d l hI1 hb1 hd hl
      subst hx; exact iha hw p w1 d l h8 hI1 hd hl
    · show a.fine ∧ (a.deep + 1 ≤ d) ∧ 1 + a.nodes ≤ l ↔ _
      have s2 : sumN (fun _ => a) 1 = 0 + a.nodes := rfl
      have n1 := a.nodes_pos
      rw [s2]
      constructor
      · rintro ⟨h1, h3, h4⟩
        refine ⟨rfl, by omega, by omega, fun i hi => ⟨h1, by show a.deep ≤ d - 1; omega⟩, by omega⟩
      · rintro ⟨_, h1, h2, h3, h4⟩
        have e0 : a.fine ∧ a.deep ≤ d - 1 := h3 0 (by omega)
        exact ⟨e0.1, by have := e0.2; omega, by omega⟩
    · show 1 + a.nodes = 1 + (0 + a.nodes)
      omega
set_option maxHeartbeats 800000 in
theorem gIs_c {w : World} {t : Ex} {v : Ev} (b : Bool) (hb : b = true ↔ t.may 32 256) (hw : t.wf) (hv : Tg w t v) (ht : Tb w) :
    Calls Tryz.prog 27 #[.agg #[.int .i64 v.k, .bool v.r.s, .slice v.r.A v.r.n v.r.c, .slice v.r.B v.r.m v.r.d, .string v.s, .slice v.K v.n v.c]] w fun e w' => e = .returned (.bool b) ∧ Below w.heap.size w w' := by
  have hz : (w.alloc (.cells #[.int .i64 v.k, .bool v.r.s, .slice v.r.A v.r.n v.r.c, .slice v.r.B v.r.m v.r.d, .string v.s, .slice v.K v.n v.c] 27)).heap.size = w.heap.size + 1 := by simp
  have hI : IC w (w.heap.size + 1) ((w.alloc (.cells #[.int .i64 v.k, .bool v.r.s, .slice v.r.A v.r.n v.r.c, .slice v.r.B v.r.m v.r.d, .string v.s, .slice v.K v.n v.c] 27)).alloc (.cells #[.int .i64 256] 3)) 256 :=
    ⟨by omega, ((Below.refl _ _).alloc (Nat.le_refl _) _).alloc (by omega) _, by rw [← hz]; exact heap_alloc_new _ _⟩
  have hb0 := (((But.refl (w.heap.size + 1) w).alloc (.cells #[.int .i64 v.k, .bool v.r.s, .slice v.r.A v.r.n v.r.c, .slice v.r.B v.r.m v.r.d, .string v.s, .slice v.K v.n v.c] 27)).alloc (.cells #[.int .i64 256] 3))
  go_enter Tryz.func27, Tryz.ntmps27
  go_wp2_with fail
  refine (gmay_c ht t hw v _ 32 256 hv hI (by omega) (by omega)).mono ?_
  rintro e w' ⟨b', l', rfl, hbi, _, _, hb1⟩
  have e1 : b' = b := by rw [Bool.eq_iff_iff, hbi, hb]
  subst e1
  go_wp2
  go_ret
  exact ⟨rfl, (hb0.trans hb1).new (by omega)⟩
end Go.Proofs.YtdpbceipiappjaaGreatDoor
