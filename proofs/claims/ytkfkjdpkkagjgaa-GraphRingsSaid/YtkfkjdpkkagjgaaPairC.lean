/-
  A constraint of two variables, as the law makes it.
-/
import Derived.Test.YtkfkjdpkkagjgaaGrD
import Derived.Test.YtkfkjdpkkagjgaaLookD
import Derived.Deep.Cut
namespace Go.Proofs.Ytkfkjdpkkagjgaa
set_option maxRecDepth 20000
open Go.RowKit

theorem Rt.nrm {w : World} {lo : Nat} {v : Rv} {r : Rat} (h : Rt w lo v r) : Nrm w v :=
  ⟨_, _, h.num.lower (Nat.zero_le _), h.den.lower (Nat.zero_le _), (IsN_iff _ _ _ h.num.l32 h.den.l32 r (by rw [val_lim, val_lim, h.sign]; exact rn_self r)).2 ⟨h.sign, rfl, rfl⟩⟩
/-- A sum's block holds no limbs. -/
theorem Row.apart5 {w : World} {lo n Y : Nat} {A : Option Addr} {l : List Nat} (h : Row w lo A n l) (k : C5 w Y (.int .i64 0) (.slice none 0 0) (.bool false) (.slice none 0 0) (.slice none 0 0)) (hn : 0 < n) : ∃ b' off, A = some ⟨b', off, none⟩ ∧ b' ≠ Y := by
  obtain ⟨b', off, e, h1, h2, hc⟩ := h.mem hn
  refine ⟨b', off, e, fun hbb => ?_⟩
  subst hbb
  have h' : w.heap[b']? = some (.cells #[Value.int .i64 0, .slice none 0 0, .bool false, .slice none 0 0, .slice none 0 0] 28 (0, 0)) := k
  have h0 := hc 0 hn
  rw [Nat.add_zero] at h0
  rcases Nat.lt_or_ge off 5 with h3 | h3
  · have : off = 0 ∨ off = 1 ∨ off = 2 ∨ off = 3 ∨ off = 4 := by omega
    rcases this with rfl | rfl | rfl | rfl | rfl <;> simp [World.cell?, h'] at h0
  · have hn : (#[Value.int .i64 0, .slice none 0 0, .bool false, .slice none 0 0, .slice none 0 0] : Array Value)[off]? = none := Array.getElem?_eq_none (by simpa using h3)
    simp [World.cell?, h', hn] at h0
theorem Row.put5z {w : World} {lo n Y : Nat} {A : Option Addr} {l : List Nat} (h : Row w lo A n l) (k : C5 w Y (.int .i64 0) (.slice none 0 0) (.bool false) (.slice none 0 0) (.slice none 0 0)) (x0 x1 x2 x3 x4 : Value) : Row (put5 w Y x0 x1 x2 x3 x4) lo A n l := by
  by_cases hn : 0 < n
  · obtain ⟨b', off, e, hne⟩ := h.apart5 k hn
    have hs : ∀ ad, A = some ad → ad.block ≠ Y := by intro ad ea; rw [e] at ea; injection ea with ea; subst ea; exact hne
    exact ((((h.set _ hs).set _ hs).set _ hs).set _ hs).set _ hs
  · have h0 : n = 0 := by omega
    subst h0
    exact ⟨h.len, h.l32, fun h => absurd h (by omega)⟩
theorem Rt.put5z {w : World} {lo Y : Nat} {r : Rat} {u : Rv} (h : Rt w lo u r) (k : C5 w Y (.int .i64 0) (.slice none 0 0) (.bool false) (.slice none 0 0) (.slice none 0 0)) (x0 x1 x2 x3 x4 : Value) : Rt (put5 w Y x0 x1 x2 x3 x4) lo u r :=
  ⟨h.1, h.2, h.3, h.4.put5z k _ _ _ _ _, h.5, h.6, h.7.put5z k _ _ _ _ _⟩
/-- Two terms of the variables a and b, their numbers, and a number beside; all of it from block lo on. -/
structure Two (w : World) (lo G a b : Nat) (z zk : Rv) : Prop where
  cells : w.heap[G]? = some (.cells #[.int .i64 (a : Int), .bool z.s, .slice z.A z.n z.c, .slice z.B z.m z.d, .int .i64 (b : Int), .bool z.s, .slice z.A z.n z.c, .slice z.B z.m z.d] 42 (0, 0))
  one : Rt w lo z ((1 : Int) : Rat)
  k : Rt w lo zk ((0 : Int) : Rat)
  le : lo ≤ G
section
variable {w w' : World} {lo G a b Y : Nat} {z zk : Rv}
theorem Two.lt (h : Two w lo G a b z zk) : G < w.heap.size := (Array.getElem?_eq_some_iff.1 h.cells).1
theorem Two.low (h : Two w lo G a b z zk) : Two w 0 G a b z zk := ⟨h.cells, h.one.lower (Nat.zero_le _), h.k.lower (Nat.zero_le _), Nat.zero_le _⟩
theorem Two.below (h : Two w lo G a b z zk) (hb : Below w.heap.size w w') : Two w' lo G a b z zk :=
  ⟨(hb.block _ h.lt).trans h.cells, h.one.below hb, h.k.below hb, h.le⟩
theorem Row.grownLo {n : Nat} {A : Option Addr} {l : List Nat} (h : Row w lo A n l) {B : Option Nat} (hg : w.grownBy w' B) (hB : ∀ k, B = some k → k < lo) : Row w' lo A n l :=
  ⟨h.len, h.l32, fun hn => by
    obtain ⟨b, off, e, h1, h2, hc⟩ := h.mem hn
    exact ⟨b, off, e, h1, Nat.lt_of_lt_of_le h2 hg.size, fun j hj => (World.cell?_of_block (hg.block b h2 (fun e => by have := hB b e.symm; omega))).trans (hc j hj)⟩⟩
theorem Rt.grownLo {r : Rat} {u : Rv} (h : Rt w lo u r) {B : Option Nat} (hg : w.grownBy w' B) (hB : ∀ k, B = some k → k < lo) : Rt w' lo u r :=
  ⟨h.1, h.2, h.3, h.4.grownLo hg hB, h.5, h.6, h.7.grownLo hg hB⟩
theorem Two.grownLo (h : Two w lo G a b z zk) {B : Option Nat} (hg : w.grownBy w' B) (hB : ∀ k, B = some k → k < lo) : Two w' lo G a b z zk :=
  ⟨(hg.block G h.lt (fun e => by have := hB G e.symm; have := h.le; omega)).trans h.cells, h.one.grownLo hg hB, h.k.grownLo hg hB, h.le⟩
theorem Two.put5z (h : Two w lo G a b z zk) (hk : C5 w Y (.int .i64 0) (.slice none 0 0) (.bool false) (.slice none 0 0) (.slice none 0 0)) (x0 x1 x2 x3 x4 : Value) : Two (put5 w Y x0 x1 x2 x3 x4) lo G a b z zk := by
  have hne : G ≠ Y := by
    intro e
    subst e
    have h1 : w.heap[G]? = some (.cells #[Value.int .i64 0, .slice none 0 0, .bool false, .slice none 0 0, .slice none 0 0] 28 (0, 0)) := hk
    have h2 := h1.symm.trans h.cells
    injection h2 with h2
    injection h2 with h2
    have := congrArg Array.size h2
    simp at this
  exact ⟨(put5_but _ _ _ _ _ _ _ G h.lt hne).trans h.cells, h.one.put5z hk _ _ _ _ _, h.k.put5z hk _ _ _ _ _, h.le⟩
end
/-- The sum of two terms, as a struct. -/
def pv (G : Nat) (zk : Rv) : Cv := ⟨0, some ⟨G, 0, none⟩, 2, 2, zk⟩
def PairPost (a b : Nat) (w : World) (e : Ending) (w' : World) : Prop := ∃ (G : Nat) (z zk : Rv), e = .returned (.agg #[.int .i64 0, .slice (some ⟨G, 0, none⟩) 2 2, .bool zk.s, .slice zk.A zk.n zk.c, .slice zk.B zk.m zk.d]) ∧ Two w' w.heap.size G a b z zk ∧ Below w.heap.size w w'
set_option maxHeartbeats 12800000 in
theorem pair_c (a b : Nat) (hab : a < b) (w : World) : Calls Try.prog 23 #[.int .i64 (a : Int), .int .i64 (b : Int)] w (PairPost a b w) := by
  have m1 : min (a : Int) (b : Int) = (a : Int) := by omega
  have m2 : max (a : Int) (b : Int) = (b : Int) := by omega
  clear hab
  go_enter Try.func23, Try.ntmps23
  go_wp2_with fail
  have HY0 : Hid (C5 (w.alloc (.cells #[.int .i64 0, .slice none 0 0, .bool false, .slice none 0 0, .slice none 0 0] 28)) w.heap.size (.int .i64 0) (.slice none 0 0) (.bool false) (.slice none 0 0) (.slice none 0 0) ∧ Below w.heap.size w (w.alloc (.cells #[.int .i64 0, .slice none 0 0, .bool false, .slice none 0 0, .slice none 0 0] 28))) := ⟨C5.new w (.int .i64 0) (.slice none 0 0) (.bool false) (.slice none 0 0) (.slice none 0 0), (Below.refl _ _).alloc (Nat.le_refl _) _⟩
  generalize w.alloc (.cells #[.int .i64 0, .slice none 0 0, .bool false, .slice none 0 0, .slice none 0 0] 28) = V at *
  obtain ⟨X0, hX0⟩ : ∃ X0, X0 = w.heap.size := ⟨_, rfl⟩
  have HX0 : Hid (w.heap.size ≤ X0) := by show _ ≤ _; omega
  rw [← hX0] at HY0
  rw [← hX0]
  have HVB : Hid (Below w.heap.size w V) := hX0 ▸ HY0.out.2
  clear hX0
  refine (rInt_c 1 _ (by omega)).mono ?_
  rintro e w1 ⟨z, rfl, hz1, hb1⟩
  go_upto_region 2 with fail
  have HK1 : Hid (C3 (w1.alloc (.cells #[.bool z.s, .slice z.A z.n z.c, .slice z.B z.m z.d] 26)) w1.heap.size (.bool z.s) (.slice z.A z.n z.c) (.slice z.B z.m z.d) ∧ Below V.heap.size V (w1.alloc (.cells #[.bool z.s, .slice z.A z.n z.c, .slice z.B z.m z.d] 26)) ∧ Rt (w1.alloc (.cells #[.bool z.s, .slice z.A z.n z.c, .slice z.B z.m z.d] 26)) w.heap.size z ((1 : Int) : Rat)) := ⟨C3.new w1 (.bool z.s) (.slice z.A z.n z.c) (.slice z.B z.m z.d), hb1.alloc hb1.size _, (hz1.below ((Below.refl _ _).alloc (Nat.le_refl _) _)).lower HVB.out.size⟩
  have hb1S : Hid (V.heap.size ≤ w1.heap.size) := hb1.size
  clear hz1 hb1
  generalize w1.alloc (.cells #[.bool z.s, .slice z.A z.n z.c, .slice z.B z.m z.d] 26) = W at *
  obtain ⟨X1, hX1⟩ : ∃ X1, X1 = w1.heap.size := ⟨_, rfl⟩
  have HXX : Hid (X0 < X1) := by show _ < _; have := HY0.out.1.lt; have := hb1S.out; omega
  rw [← hX1] at HK1
  rw [← hX1]
  clear hX1
  have HAL : Hid (∀ w', Below W.heap.size W w' → (w'.cell? ⟨X1, 0, none⟩ = some (.bool z.s) ∧ w'.cell? ⟨X1, 1, none⟩ = some (.slice z.A z.n z.c) ∧ w'.cell? ⟨X1, 2, none⟩ = some (.slice z.B z.m z.d) ∧ w'.frozen? ⟨X1, 0, none⟩ = false ∧ w'.frozen? ⟨X1, 1, none⟩ = false ∧ w'.frozen? ⟨X1, 2, none⟩ = false)) := fun w' h => (HK1.out.1.below h).facts
  have HZ := Lib.hid HK1.out.2.2
  have HY : Hid (C5 W X0 (.int .i64 0) (.slice none 0 0) (.bool false) (.slice none 0 0) (.slice none 0 0)) := HY0.out.1.below HK1.out.2.1
  have HBW : Hid (Below w.heap.size w W) := HVB.out.trans (HK1.out.2.1.mono HVB.out.size)
  clear HY0 HK1 HVB
  obtain ⟨x0, x1, x2, _, _, _⟩ := HAL.out _ (Below.refl _ _)
  refine wp_region_held_drew (S := fun w' => w'.cell? ⟨X1, 0, none⟩ = some (.bool z.s) ∧ w'.cell? ⟨X1, 1, none⟩ = some (.slice z.A z.n z.c) ∧ w'.cell? ⟨X1, 2, none⟩ = some (.slice z.B z.m z.d)) (by kernel_rfl) ?_ (fun hHeld => ?_)
  · (try dsimp only)
    go_keep
  refine wpAnyH_take (i := 0) (oi := { dst := some 7, op := Op.move (Operand.tmp 0), type := 3, pos := "law.go:43", after := #[], guard := none }) (v := ?vq1x) rfl (by kernel_rfl) (by kernel_rfl) (by kernel_rfl) (fun _ _ _ h => h) (Or.inl ⟨by rfl, ?hyq1x⟩) (by assumption) ?restq1x
  case hyq1x =>
    intro w hSw
    (try dsimp only at hSw)
    go_simp
    all_goals (with_reducible rfl)
  try simp only [Act.put, List.setIfInBounds_toArray, List.set_cons_zero, List.set_cons_succ]
  refine wpAnyH_take (i := 1) (oi := { dst := some 8, op := Op.move (Operand.tmp 1), type := 3, pos := "law.go:43", after := #[], guard := none }) (v := ?vq2x) rfl (by kernel_rfl) (by kernel_rfl) (by kernel_rfl) (fun _ _ _ h => h) (Or.inl ⟨by rfl, ?hyq2x⟩) (by assumption) ?restq2x
  case hyq2x =>
    intro w hSw
    (try dsimp only at hSw)
    go_simp
    all_goals (with_reducible rfl)
  try simp only [Act.put, List.setIfInBounds_toArray, List.set_cons_zero, List.set_cons_succ]
  refine wpAnyH_take (i := 2) (oi := { dst := some 9, op := Op.call { callee := Callee.builtin Builtin.min, args := #[Operand.tmp 7, Operand.tmp 8], argTypes := #[3, 3] }, type := 3, pos := "law.go:43", after := #[{ on := 0, ground := Ground.data }, { on := 1, ground := Ground.data }], guard := none }) (v := ?vq3x) rfl (by kernel_rfl) (by kernel_rfl) (by kernel_rfl) (fun _ _ _ h => h) (Or.inl ⟨by rfl, ?hyq3x⟩) (by assumption) ?restq3x
  case hyq3x =>
    intro w hSw
    (try dsimp only at hSw)
    go_simp
    all_goals (with_reducible rfl)
  try simp only [Act.put, List.setIfInBounds_toArray, List.set_cons_zero, List.set_cons_succ]
  refine wpAnyH_take (i := 3) (oi := { dst := some 10, op := Op.load 26 (Operand.tmp 5), type := 26, pos := "law.go:43", after := #[], guard := none }) (v := ?vq4x) rfl (by kernel_rfl) (by kernel_rfl) (by kernel_rfl) (fun _ _ _ h => h) (Or.inl ⟨by rfl, ?hyq4x⟩) (by assumption) ?restq4x
  case hyq4x =>
    intro w hSw
    (try dsimp only at hSw)
    go_simp
    all_goals (with_reducible rfl)
  try simp only [Act.put, List.setIfInBounds_toArray, List.set_cons_zero, List.set_cons_succ]
  refine wpAnyH_take (i := 4) (oi := { dst := some 11, op := Op.build 42 #[(0, Operand.tmp 9), (1, Operand.tmp 10)], type := 42, pos := "law.go:43", after := #[{ on := 2, ground := Ground.data }, { on := 3, ground := Ground.data }], guard := none }) (v := ?vq5x) rfl (by kernel_rfl) (by kernel_rfl) (by kernel_rfl) (fun _ _ _ h => h) (Or.inl ⟨by rfl, ?hyq5x⟩) (by assumption) ?restq5x
  case hyq5x =>
    intro w hSw
    (try dsimp only at hSw)
    go_simp
    all_goals (with_reducible rfl)
  try simp only [Act.put, List.setIfInBounds_toArray, List.set_cons_zero, List.set_cons_succ]
  refine wpAnyH_take (i := 5) (oi := { dst := some 12, op := Op.move (Operand.tmp 0), type := 3, pos := "law.go:43", after := #[], guard := none }) (v := ?vq6x) rfl (by kernel_rfl) (by kernel_rfl) (by kernel_rfl) (fun _ _ _ h => h) (Or.inl ⟨by rfl, ?hyq6x⟩) (by assumption) ?restq6x
  case hyq6x =>
    intro w hSw
    (try dsimp only at hSw)
    go_simp
    all_goals (with_reducible rfl)
  try simp only [Act.put, List.setIfInBounds_toArray, List.set_cons_zero, List.set_cons_succ]
  refine wpAnyH_take (i := 6) (oi := { dst := some 13, op := Op.move (Operand.tmp 1), type := 3, pos := "law.go:43", after := #[], guard := none }) (v := ?vq7x) rfl (by kernel_rfl) (by kernel_rfl) (by kernel_rfl) (fun _ _ _ h => h) (Or.inl ⟨by rfl, ?hyq7x⟩) (by assumption) ?restq7x
  case hyq7x =>
    intro w hSw
    (try dsimp only at hSw)
    go_simp
    all_goals (with_reducible rfl)
  try simp only [Act.put, List.setIfInBounds_toArray, List.set_cons_zero, List.set_cons_succ]
  refine wpAnyH_take (i := 7) (oi := { dst := some 14, op := Op.call { callee := Callee.builtin Builtin.max, args := #[Operand.tmp 12, Operand.tmp 13], argTypes := #[3, 3] }, type := 3, pos := "law.go:43", after := #[{ on := 5, ground := Ground.data }, { on := 6, ground := Ground.data }], guard := none }) (v := ?vq8x) rfl (by kernel_rfl) (by kernel_rfl) (by kernel_rfl) (fun _ _ _ h => h) (Or.inl ⟨by rfl, ?hyq8x⟩) (by assumption) ?restq8x
  case hyq8x =>
    intro w hSw
    (try dsimp only at hSw)
    go_simp
    all_goals (with_reducible rfl)
  try simp only [Act.put, List.setIfInBounds_toArray, List.set_cons_zero, List.set_cons_succ]
  refine wpAnyH_take (i := 8) (oi := { dst := some 15, op := Op.load 26 (Operand.tmp 5), type := 26, pos := "law.go:43", after := #[], guard := none }) (v := ?vq9x) rfl (by kernel_rfl) (by kernel_rfl) (by kernel_rfl) (fun _ _ _ h => h) (Or.inl ⟨by rfl, ?hyq9x⟩) (by assumption) ?restq9x
  case hyq9x =>
    intro w hSw
    (try dsimp only at hSw)
    go_simp
    all_goals (with_reducible rfl)
  try simp only [Act.put, List.setIfInBounds_toArray, List.set_cons_zero, List.set_cons_succ]
  refine wpAnyH_take (i := 9) (oi := { dst := some 16, op := Op.build 42 #[(0, Operand.tmp 14), (1, Operand.tmp 15)], type := 42, pos := "law.go:43", after := #[{ on := 7, ground := Ground.data }, { on := 8, ground := Ground.data }], guard := none }) (v := ?vq10x) rfl (by kernel_rfl) (by kernel_rfl) (by kernel_rfl) (fun _ _ _ h => h) (Or.inl ⟨by rfl, ?hyq10x⟩) (by assumption) ?restq10x
  case hyq10x =>
    intro w hSw
    (try dsimp only at hSw)
    go_simp
    all_goals (with_reducible rfl)
  try simp only [Act.put, List.setIfInBounds_toArray, List.set_cons_zero, List.set_cons_succ]
  refine wpAnyH_ready (rs := [10, 11]) (by kernel_rfl) (by simp) ?_
  refine AllReadyH.cons (o := { dst := some 17, op := Op.buildSlice 23 2 #[(0, Operand.tmp 11), (1, Operand.tmp 16)], type := 23, pos := "law.go:43", after := #[{ on := 4, ground := Ground.data }, { on := 9, ground := Ground.data }], guard := none }) rfl (fun K hK => ?_) (AllReadyH.cons (o := { dst := some 18, op := Op.call { callee := Callee.value (Operand.func 30), args := #[Operand.const (Value.int IntKind.i64 0)], argTypes := #[3] }, type := 26, pos := "law.go:43", after := #[], guard := none }) rfl (fun K hK => ?_) AllReadyH.nil)
  · skip
    try go_simp
    try go_wp2_with fail
    refine hK.out _ _ ?_ (fun hHeld => ?_)
    · (try dsimp only)
      go_keep
    clear hK K
    try simp only [Act.put, List.setIfInBounds_toArray, List.set_cons_zero, List.set_cons_succ]
    have B10 : Hid (Below W.heap.size W (W.alloc (.cells #[.int .i64 (a : Int), .bool z.s, .slice z.A z.n z.c, .slice z.B z.m z.d, .int .i64 (b : Int), .bool z.s, .slice z.A z.n z.c, .slice z.B z.m z.d] 42)).drew) := ((Below.refl _ _).alloc (Nat.le_refl _) _).drew
    have G10 : Hid ((W.alloc (.cells #[.int .i64 (a : Int), .bool z.s, .slice z.A z.n z.c, .slice z.B z.m z.d, .int .i64 (b : Int), .bool z.s, .slice z.A z.n z.c, .slice z.B z.m z.d] 42)).drew.heap[W.heap.size]? = some (.cells #[.int .i64 (a : Int), .bool z.s, .slice z.A z.n z.c, .slice z.B z.m z.d, .int .i64 (b : Int), .bool z.s, .slice z.A z.n z.c, .slice z.B z.m z.d] 42 (0, 0)) ∧ W.heap.size < (W.alloc (.cells #[.int .i64 (a : Int), .bool z.s, .slice z.A z.n z.c, .slice z.B z.m z.d, .int .i64 (b : Int), .bool z.s, .slice z.A z.n z.c, .slice z.B z.m z.d] 42)).drew.heap.size) := ⟨heap_alloc_new W _, by simp⟩
    generalize (W.alloc (.cells #[.int .i64 (a : Int), .bool z.s, .slice z.A z.n z.c, .slice z.B z.m z.d, .int .i64 (b : Int), .bool z.s, .slice z.A z.n z.c, .slice z.B z.m z.d] 42)).drew = w10 at *
    clear x0 x1 x2
    obtain ⟨x0, x1, x2, _, _, _⟩ := HAL.out _ B10.out
    refine wpAnyH_ready (rs := [11]) (by kernel_rfl) (by simp) ?_
    refine AllReadyH.cons (o := { dst := some 18, op := Op.call { callee := Callee.value (Operand.func 30), args := #[Operand.const (Value.int IntKind.i64 0)], argTypes := #[3] }, type := 26, pos := "law.go:43", after := #[], guard := none }) rfl (fun K hK => ?_) AllReadyH.nil
    try go_simp
    go_at_call 30
    refine (rInt_c 0 _ (by omega)).mono ?_
    rintro e w11 ⟨zk, rfl, hz, hb⟩
    have Z11 := Lib.hid (hz.lower (Nat.le_trans HBW.out.size B10.out.size))
    have B11 := Lib.hid hb
    clear hz hb
    clear x0 x1 x2
    obtain ⟨x0, x1, x2, _, _, _⟩ := HAL.out _ (B10.out.trans (B11.out.mono B10.out.size))
    have kY := HY.out.below (B10.out.trans (B11.out.mono B10.out.size))
    obtain ⟨y0, y1, y2, y3, y4⟩ := kY.facts
    obtain ⟨t0, t1, t2, t3, t4⟩ := kY.thaw
    clear kY
    have mA : ¬ X1 = X0 := by have := HXX.out; omega
    have mB : ¬ X0 = X1 := fun e => mA e.symm
    try go_wp2_with fail
    refine hK.out _ _ ?_ (fun hHeld => ?_)
    · (try dsimp only)
      go_keep
    clear hK K
    try simp only [Act.put, List.setIfInBounds_toArray, List.set_cons_zero, List.set_cons_succ]
    refine wpAnyH_take (i := 12) (oi := { dst := some 19, op := Op.build 28 #[(1, Operand.tmp 17), (2, Operand.tmp 18)], type := 28, pos := "law.go:43", after := #[{ on := 10, ground := Ground.data }, { on := 11, ground := Ground.data }], guard := none }) (v := ?vq11x) rfl (by kernel_rfl) (by kernel_rfl) (by kernel_rfl) (fun _ _ _ h => h) (Or.inl ⟨by rfl, ?hyq11x⟩) (by assumption) ?restq11x
    case hyq11x =>
      intro w hSw
      (try dsimp only at hSw)
      go_simp
      all_goals (with_reducible rfl)
    try simp only [Act.put, List.setIfInBounds_toArray, List.set_cons_zero, List.set_cons_succ]
    refine wpAnyH_ready (rs := [13]) (by kernel_rfl) (by simp) ?_
    refine AllReadyH.cons (o := { dst := none, op := Op.store 28 (Operand.tmp 4) (Operand.tmp 19), type := 0, pos := "law.go:43", after := #[{ on := 12, ground := Ground.data }, { on := 11, ground := Ground.chain }, { on := 0, ground := Ground.phase }, { on := 1, ground := Ground.phase }, { on := 2, ground := Ground.phase }, { on := 3, ground := Ground.phase }, { on := 4, ground := Ground.phase }, { on := 5, ground := Ground.phase }, { on := 6, ground := Ground.phase }, { on := 7, ground := Ground.phase }, { on := 8, ground := Ground.phase }, { on := 9, ground := Ground.phase }, { on := 10, ground := Ground.phase }, { on := 11, ground := Ground.phase }, { on := 12, ground := Ground.phase }], guard := none }) rfl (fun K hK => ?_) AllReadyH.nil
    try go_simp
    try go_wp2_with fail
    refine hK.out _ _ ?_ (fun hHeld => ?_)
    · (try dsimp only)
      go_keep
    clear hK K
    try simp only [Act.put, List.setIfInBounds_toArray, List.set_cons_zero, List.set_cons_succ]
    refine wpAnyH_done (by kernel_rfl) ?_ _
    go_wp2_with fail
    refine ret5 (fn := Try.f23) Try.results23 rfl rfl (HY.out.below (B10.out.trans (B11.out.mono B10.out.size))) ?_
    exact ⟨_, z, zk, rfl, Two.put5z ⟨(B11.out.block _ G10.out.2).trans G10.out.1, HZ.out.below (B10.out.trans (B11.out.mono B10.out.size)), Z11.out.below (Below.refl _ _), Nat.le_trans HBW.out.size (Nat.le_refl _)⟩ (HY.out.below (B10.out.trans (B11.out.mono B10.out.size))) _ _ _ _ _, (HBW.out.trans ((B10.out.trans (B11.out.mono B10.out.size)).mono HBW.out.size)).trans (put5_below HX0.out _ _ _ _ _)⟩
  · skip
    try go_simp
    go_at_call 30
    refine (rInt_c 0 _ (by omega)).mono ?_
    rintro e w11 ⟨zk, rfl, hz, hb⟩
    have Z11 := Lib.hid (hz.lower (HBW.out.size))
    have B11 := Lib.hid ((bel1 W).trans hb)
    clear hz hb
    clear x0 x1 x2
    obtain ⟨x0, x1, x2, _, _, _⟩ := HAL.out _ B11.out
    try go_wp2_with fail
    refine hK.out _ _ ?_ (fun hHeld => ?_)
    · (try dsimp only)
      go_keep
    clear hK K
    try simp only [Act.put, List.setIfInBounds_toArray, List.set_cons_zero, List.set_cons_succ]
    refine wpAnyH_ready (rs := [10]) (by kernel_rfl) (by simp) ?_
    refine AllReadyH.cons (o := { dst := some 17, op := Op.buildSlice 23 2 #[(0, Operand.tmp 11), (1, Operand.tmp 16)], type := 23, pos := "law.go:43", after := #[{ on := 4, ground := Ground.data }, { on := 9, ground := Ground.data }], guard := none }) rfl (fun K hK => ?_) AllReadyH.nil
    try go_simp
    try go_wp2_with fail
    refine hK.out _ _ ?_ (fun hHeld => ?_)
    · (try dsimp only)
      go_keep
    clear hK K
    try simp only [Act.put, List.setIfInBounds_toArray, List.set_cons_zero, List.set_cons_succ]
    have B10 : Hid (Below w11.heap.size w11 (w11.alloc (.cells #[.int .i64 (a : Int), .bool z.s, .slice z.A z.n z.c, .slice z.B z.m z.d, .int .i64 (b : Int), .bool z.s, .slice z.A z.n z.c, .slice z.B z.m z.d] 42))) := ((Below.refl _ _).alloc (Nat.le_refl _) _)
    have G10 : Hid ((w11.alloc (.cells #[.int .i64 (a : Int), .bool z.s, .slice z.A z.n z.c, .slice z.B z.m z.d, .int .i64 (b : Int), .bool z.s, .slice z.A z.n z.c, .slice z.B z.m z.d] 42)).heap[w11.heap.size]? = some (.cells #[.int .i64 (a : Int), .bool z.s, .slice z.A z.n z.c, .slice z.B z.m z.d, .int .i64 (b : Int), .bool z.s, .slice z.A z.n z.c, .slice z.B z.m z.d] 42 (0, 0)) ∧ w11.heap.size < (w11.alloc (.cells #[.int .i64 (a : Int), .bool z.s, .slice z.A z.n z.c, .slice z.B z.m z.d, .int .i64 (b : Int), .bool z.s, .slice z.A z.n z.c, .slice z.B z.m z.d] 42)).heap.size) := ⟨heap_alloc_new w11 _, by simp⟩
    generalize (w11.alloc (.cells #[.int .i64 (a : Int), .bool z.s, .slice z.A z.n z.c, .slice z.B z.m z.d, .int .i64 (b : Int), .bool z.s, .slice z.A z.n z.c, .slice z.B z.m z.d] 42)) = w10 at *
    clear x0 x1 x2
    obtain ⟨x0, x1, x2, _, _, _⟩ := HAL.out _ (B11.out.trans (B10.out.mono B11.out.size))
    have kY := HY.out.below (B11.out.trans (B10.out.mono B11.out.size))
    obtain ⟨y0, y1, y2, y3, y4⟩ := kY.facts
    obtain ⟨t0, t1, t2, t3, t4⟩ := kY.thaw
    clear kY
    have mA : ¬ X1 = X0 := by have := HXX.out; omega
    have mB : ¬ X0 = X1 := fun e => mA e.symm
    refine wpAnyH_take (i := 12) (oi := { dst := some 19, op := Op.build 28 #[(1, Operand.tmp 17), (2, Operand.tmp 18)], type := 28, pos := "law.go:43", after := #[{ on := 10, ground := Ground.data }, { on := 11, ground := Ground.data }], guard := none }) (v := ?vq12x) rfl (by kernel_rfl) (by kernel_rfl) (by kernel_rfl) (fun _ _ _ h => h) (Or.inl ⟨by rfl, ?hyq12x⟩) (by assumption) ?restq12x
    case hyq12x =>
      intro w hSw
      (try dsimp only at hSw)
      go_simp
      all_goals (with_reducible rfl)
    try simp only [Act.put, List.setIfInBounds_toArray, List.set_cons_zero, List.set_cons_succ]
    refine wpAnyH_ready (rs := [13]) (by kernel_rfl) (by simp) ?_
    refine AllReadyH.cons (o := { dst := none, op := Op.store 28 (Operand.tmp 4) (Operand.tmp 19), type := 0, pos := "law.go:43", after := #[{ on := 12, ground := Ground.data }, { on := 11, ground := Ground.chain }, { on := 0, ground := Ground.phase }, { on := 1, ground := Ground.phase }, { on := 2, ground := Ground.phase }, { on := 3, ground := Ground.phase }, { on := 4, ground := Ground.phase }, { on := 5, ground := Ground.phase }, { on := 6, ground := Ground.phase }, { on := 7, ground := Ground.phase }, { on := 8, ground := Ground.phase }, { on := 9, ground := Ground.phase }, { on := 10, ground := Ground.phase }, { on := 11, ground := Ground.phase }, { on := 12, ground := Ground.phase }], guard := none }) rfl (fun K hK => ?_) AllReadyH.nil
    try go_simp
    try go_wp2_with fail
    refine hK.out _ _ ?_ (fun hHeld => ?_)
    · (try dsimp only)
      go_keep
    clear hK K
    try simp only [Act.put, List.setIfInBounds_toArray, List.set_cons_zero, List.set_cons_succ]
    refine wpAnyH_done (by kernel_rfl) ?_ _
    go_wp2_with fail
    refine ret5 (fn := Try.f23) Try.results23 rfl rfl (HY.out.below (B11.out.trans (B10.out.mono B11.out.size))) ?_
    exact ⟨_, z, zk, rfl, Two.put5z ⟨((Below.refl _ _).block _ G10.out.2).trans G10.out.1, HZ.out.below (B11.out.trans (B10.out.mono B11.out.size)), Z11.out.below B10.out, Nat.le_trans HBW.out.size B11.out.size⟩ (HY.out.below (B11.out.trans (B10.out.mono B11.out.size))) _ _ _ _ _, (HBW.out.trans ((B11.out.trans (B10.out.mono B11.out.size)).mono HBW.out.size)).trans (put5_below HX0.out _ _ _ _ _)⟩
/-- It may be, and these are its variables. -/
theorem Two.gin {w : World} {lo G a b : Nat} {z zk : Rv} (h : Two w lo G a b z zk) : Gin w (pv G zk, [⟨a, z⟩, ⟨b, z⟩]) := by
  have s1 : Sz ((1 : Int) : Rat) 150 := ⟨show (1 : Nat) < 4294967296 ^ 150 by decide, show (1 : Nat) < 4294967296 ^ 150 by decide⟩
  have s0 : Sz ((0 : Int) : Rat) 150 := ⟨show (0 : Nat) < 4294967296 ^ 150 by decide, show (1 : Nat) < 4294967296 ^ 150 by decide⟩
  refine ⟨Nat.le_refl _, show 2 ≤ 1000 by omega, ⟨rfl, fun _ => ⟨G, 0, rfl, Nat.zero_le _, h.lt, fun i x hx => ?_⟩⟩, ⟨[((a : Int), _), ((b : Int), _)], ⟨rfl, h.one.rw s1⟩, ⟨rfl, h.one.rw s1⟩, trivial⟩, _, h.k.rw s0⟩
  have hi : i < 2 := (List.getElem?_eq_some_iff.1 hx).1
  have hG := h.cells
  have : i = 0 ∨ i = 1 := by omega
  rcases this with rfl | rfl
  · injection hx with hx; subst hx
    constructor <;> simp [World.cell?, hG]
  · injection hx with hx; subst hx
    constructor <;> simp [World.cell?, hG]
theorem Two.is {w : World} {lo G a b N : Nat} {z zk : Rv} (h : Two w lo G a b z zk) (hab : a < b) (hN : b < N) : IsS w (pv G zk) [⟨a, z⟩, ⟨b, z⟩] (N : Int) := by
  have s1 : Sz ((1 : Int) : Rat) 1 := ⟨show (1 : Nat) < 4294967296 ^ 1 by omega, show (1 : Nat) < 4294967296 ^ 1 by omega⟩
  have n1 : z.n ≠ 0 := fun e => (show ((1 : Int) : Rat) ≠ 0 by decide +kernel) ((zero_nrm h.one.nrm (h.one.rw s1)).2 e)
  refine ⟨⟨by show (0 : Int) ≤ 0; omega, by show (0 : Int) ≤ 4; omega⟩, h.k.nrm, fun j x hj hx => ?_⟩
  have hj2 : j < 2 := hj
  have : j = 0 ∨ j = 1 := by omega
  rcases this with rfl | rfl
  · injection hx with hx; subst hx
    exact ⟨by show (0 : Int) ≤ (a : Int); omega, by show (a : Int) < (N : Int); omega, fun y h0 => absurd h0 (Nat.lt_irrefl _), h.one.nrm, n1⟩
  · injection hx with hx; subst hx
    refine ⟨by show (0 : Int) ≤ (b : Int); omega, by show (b : Int) < (N : Int); omega, fun y _ hy => ?_, h.one.nrm, n1⟩
    injection hy with hy; subst hy
    show (a : Int) < (b : Int); omega
theorem Two.vr {w : World} {lo G a b N : Nat} {z zk : Rv} (h : Two w lo G a b z zk) (hab : a < b) (hN : b < N) : vr w N (pv G zk, [⟨a, z⟩, ⟨b, z⟩]) = [a, b] := by
  rw [vr_yes (h.is hab hN)]
  simp
end Go.Proofs.Ytkfkjdpkkagjgaa
