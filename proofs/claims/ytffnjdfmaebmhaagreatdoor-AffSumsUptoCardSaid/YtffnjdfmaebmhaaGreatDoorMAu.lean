/-
  The document's Scale of sums.
  The document's Add of sums.
-/
import Derived.Test.YtffnjdfmaebmhaaGreatDoorMAp
import Derived.Test.YtffnjdfmaebmhaaGreatDoorMRr
import Derived.Test.YtffnjdfmaebmhaaGreatDoorMAc
namespace Go.Proofs.YtffnjdfmaebmhaaGreatDoor
set_option maxRecDepth 20000
open Go.RowKit

theorem Row.agree {w w' : World} {lo n : Nat} {A : Option Addr} {l : List Nat} (h : Row w lo A n l) (hs : w.heap.size ≤ w'.heap.size) (hk : ∀ g, g < w.heap.size → w'.heap[g]? = w.heap[g]?) : Row w' lo A n l := by
  refine ⟨h.len, h.l32, fun hn => ?_⟩
  obtain ⟨b', off, e, h0, h1, hc⟩ := h.mem hn
  exact ⟨b', off, e, h0, Nat.lt_of_lt_of_le h1 hs, fun j hj => (World.cell?_of_block (hk b' h1)).trans (hc j hj)⟩
theorem Rt.agree {w w' : World} {lo : Nat} {v : Rv} {r : Rat} (h : Rt w lo v r) (hs : w.heap.size ≤ w'.heap.size) (hk : ∀ g, g < w.heap.size → w'.heap[g]? = w.heap[g]?) : Rt w' lo v r :=
  ⟨h.1, h.2, h.3, h.4.agree hs hk, h.5, h.6, h.7.agree hs hk⟩
/-- All that lies below lo, but one block, stands. -/
def Kept (lo X : Nat) (wx w' : World) : Prop := ∀ g, g < lo → g ≠ X → w'.heap[g]? = wx.heap[g]?
/-- A struct that is being made in a block of its own: its strength, its number; no terms yet. -/
structure XAt (W wx : World) (X : Nat) (s : Int) (z : Rv) (q : Rat) : Prop where
  cell : C5 wx X (.int .i64 s) (.slice none 0 0) (.bool z.s) (.slice z.A z.n z.c) (.slice z.B z.m z.d)
  below : Below W.heap.size W wx
  lo : W.heap.size ≤ X
  lt : X < wx.heap.size
  num : ∀ w', wx.heap.size ≤ w'.heap.size → Kept wx.heap.size X wx w' → Rt w' W.heap.size z q
theorem XAt.new {W w2 : World} {s : Int} {z : Rv} {q : Rat} {lo : Nat} (hb : Below W.heap.size W w2) (hz : Rt w2 lo z q) (hlo : W.heap.size ≤ lo) :
    XAt W (w2.alloc (.cells #[.int .i64 s, .slice none 0 0, .bool z.s, .slice z.A z.n z.c, .slice z.B z.m z.d] 27)) w2.heap.size s z q := by
  have hba : Below w2.heap.size w2 (w2.alloc (.cells #[.int .i64 s, .slice none 0 0, .bool z.s, .slice z.A z.n z.c, .slice z.B z.m z.d] 27)) := (Below.refl _ _).alloc (Nat.le_refl _) _
  refine ⟨C5.new w2 _ _ _ _ _, hb.alloc hb.size _, hb.size, by simp, fun w' h1 h2 => (hz.agree (Nat.le_trans hba.size h1) fun g hg => ?_).lower hlo⟩
  exact (h2 g (Nat.lt_of_lt_of_le hg hba.size) (by omega)).trans (hba.block g hg)
theorem XAt.put {W w2 : World} {s : Int} {z : Rv} {q : Rat} {lo : Nat} (hk : C5 w2 W.heap.size (.int .i64 0) (.slice none 0 0) (.bool false) (.slice none 0 0) (.slice none 0 0)) (hlo : W.heap.size < lo) (hb : Below W.heap.size W w2) (hz : Rt w2 lo z q) :
    XAt W (put5 w2 W.heap.size (.int .i64 s) (.slice none 0 0) (.bool z.s) (.slice z.A z.n z.c) (.slice z.B z.m z.d)) W.heap.size s z q :=
  ⟨hk.put _ _ _ _ _, hb.trans (put5_below (Nat.le_refl _) _ _ _ _ _), Nat.le_refl _, by rw [put5_size]; exact hk.lt, fun w' h1 h2 => by
    rw [put5_size] at h1 h2
    exact (hz.but hlo h1 fun g hg hne => (h2 g hg hne).trans (put5_but _ _ _ _ _ _ _ g hg hne)).lower (by omega)⟩
theorem Gr.set {w : World} {lo c n b j : Nat} {A : Option Addr} {l : List Tv} {L : List (Int × Rat)} (h : Gr w lo A c n l L) (hb : b < lo) (x : Value) : Gr (w.setCell ⟨b, j, none⟩ x) lo A c n l L := by
  have hg := grown_put w b j x
  have hsz : w.heap.size ≤ (w.setCell ⟨b, j, none⟩ x).heap.size := hg.size
  have hk : ∀ g, g < w.heap.size → g ≠ b → (w.setCell ⟨b, j, none⟩ x).heap[g]? = w.heap[g]? := fun g hg' hne => hg.block g hg' (fun e => hne (by injection e))
  have go : ∀ {l : List Tv} {L : List (Int × Rat)}, RdO w lo A l L → RdO (w.setCell ⟨b, j, none⟩ x) lo A l L := by
    intro l
    induction l with
    | nil => intro L h; cases L with
      | nil => trivial
      | cons _ _ => exact h.elim
    | cons y l ih => intro L h; cases L with
      | nil => exact h.elim
      | cons _ _ => exact ⟨⟨h.1.1, h.1.2.1, h.1.2.2.1.but hb hsz hk, h.1.2.2.2⟩, ih h.2⟩
  exact ⟨h.own.grown hg (fun ad e e2 => by have := (h.lt ad e).1; injection e2 with e2; omega), go h.rd⟩
theorem kept_below {lo X : Nat} {wx wr w' : World} (hb : Below wr.heap.size wr w') (h : lo ≤ wr.heap.size ∧ Kept lo X wx wr) : lo ≤ w'.heap.size ∧ Kept lo X wx w' :=
  ⟨Nat.le_trans h.1 hb.size, fun g h1 h2 => (hb.block g (by have := h.1; omega)).trans (h.2 g h1 h2)⟩
theorem kept_lo {lo X : Nat} {wx w3 w' : World} (h : lo ≤ w3.heap.size ∧ Kept lo X wx w3) (hb : Below lo w3 w') : lo ≤ w'.heap.size ∧ Kept lo X wx w' :=
  ⟨Nat.le_trans h.1 hb.size, fun g h1 h2 => (hb.block g h1).trans (h.2 g h1 h2)⟩
/-- What the loop keeps. -/
structure RSc (w wx wr : World) (X : Nat) (s : Int) (z : Rv) (r : Rat) (L : List (Int × Rat)) (i : Nat) (R : Option Addr) (p e : Nat) (ls : List Tv) (D : List (Int × Rat)) : Prop where
  cx : C5 wr X (.int .i64 s) (.slice R p e) (.bool z.s) (.slice z.A z.n z.c) (.slice z.B z.m z.d)
  gr : Gr wr wx.heap.size R e p ls D
  eq : scaleL r L = D ++ scaleL r (L.drop i)
  sz : wx.heap.size ≤ wr.heap.size ∧ Kept wx.heap.size X wx wr
  below : Below w.heap.size w wr
  lt : w.heap.size ≤ X ∧ X < wx.heap.size
  le : p ≤ i
theorem RSc.step {w wx wr w3 w4 : World} {X : Nat} {s : Int} {z : Rv} {r : Rat} {L D : List (Int × Rat)} {i p e p2 c2 : Nat} {R R2 : Option Addr} {ls ls2 : List Tv} {x : Tv} {Y : Int × Rat} (h : RSc w wx wr X s z r L i R p e ls D) (hT : L[i]? = some Y) (ex : x.v = Y.1)
    (hg : Gr w4 wx.heap.size R2 c2 p2 ls2 (D ++ lay1 x.v (Y.2 * r))) (hk : wx.heap.size ≤ w4.heap.size ∧ Kept wx.heap.size X wx w4) (h3 : Below wr.heap.size wr w3) (h4 : Below wx.heap.size w3 w4) (hp : p2 ≤ p + 1) :
    RSc w wx (w4.setCell ⟨X, 1, none⟩ (.slice R2 p2 c2)) X s z r L (i + 1) R2 p2 c2 ls2 (D ++ lay1 x.v (Y.2 * r)) := by
  have hle := h.le
  have hlt := h.lt
  have hsz := h.sz.1
  have hcx : C5 w4 X (.int .i64 s) (.slice R p e) (.bool z.s) (.slice z.A z.n z.c) (.slice z.B z.m z.d) := (h.cx.below h3).at h4 hlt.2
  have hb4 : Below w.heap.size w w4 := (h.below.trans (h3.mono h.below.size)).trans (h4.mono (by omega))
  refine ⟨hcx.set1 _, hg.set hlt.2 _, ?_, ⟨by simpa [World.setCell] using hk.1, fun g h1 h2 => ?_⟩, hb4.setCell hlt.1 _, hlt, by omega⟩
  · rw [h.eq, List.append_assoc, ex]
    congr 1
    obtain ⟨hl, e⟩ := List.getElem?_eq_some_iff.1 hT
    rw [List.drop_eq_getElem_cons hl, e]
    rfl
  · refine Eq.trans ?_ (hk.2 g h1 h2)
    show (w4.heap.modify X _)[g]? = _
    rw [Array.getElem?_modify, if_neg (fun e => h2 e.symm)]
theorem bel_drew (w : World) : Below w.heap.size w w.drew := (Below.refl _ _).drew
set_option maxHeartbeats 12800000 in
theorem rScaleK_c (va : Cv) (u : Rv) (L : List (Int × Rat)) (k r : Rat) (w : World) (ha : Cw w va L k 900) (hu : Rw w u r 900) (hn : va.n ≤ 1000) :
    Calls Tryz.prog 16 #[.agg #[.int .i64 va.s, .slice va.A va.n va.c, .bool va.K.s, .slice va.K.A va.K.n va.K.c, .slice va.K.B va.K.m va.K.d], .agg #[.bool u.s, .slice u.A u.n u.c, .slice u.B u.m u.d]] w fun e w' => ∃ z : Cv, e = .returned (.agg #[.int .i64 z.s, .slice z.A z.n z.c, .bool z.K.s, .slice z.K.A z.K.n z.K.c, .slice z.K.B z.K.m z.K.d]) ∧ z.s = va.s ∧ z.n ≤ va.n ∧ Ct w' w.heap.size z (scaleL r L) (k * r) ∧ Below w.heap.size w w' := by
  obtain ⟨ha1, ⟨la, ha2, ha3⟩, ha4⟩ := ha
  obtain ⟨ka, ku, kz, HW, hsW⟩ := openKRz w va u _ rfl
  have N0 : (0 : Int) ≤ (va.n : Int) := by omega
  have N1 : (va.n : Int) ≤ 1000 := by omega
  go_enter Tryz.func16, Tryz.ntmps16
  go_wp2_with fail
  generalize ((w.alloc (.cells #[.int .i64 va.s, .slice va.A va.n va.c, .bool va.K.s, .slice va.K.A va.K.n va.K.c, .slice va.K.B va.K.m va.K.d] 27)).alloc (.cells #[.bool u.s, .slice u.A u.n u.c, .slice u.B u.m u.d] 25)).alloc (.cells #[.int .i64 0, .slice none 0 0, .bool false, .slice none 0 0, .slice none 0 0] 27) = W at *
  have HA1 : Hid (∀ w', Below W.heap.size W w' → Rw w' va.K k 1900 ∧ Rw w' u r 1900 ∧ C5 w' w.heap.size (.int .i64 va.s) (.slice va.A va.n va.c) (.bool va.K.s) (.slice va.K.A va.K.n va.K.c) (.slice va.K.B va.K.m va.K.d) ∧ C3 w' (w.heap.size + 1) (.bool u.s) (.slice u.A u.n u.c) (.slice u.B u.m u.d)) := fun w' h =>
    ⟨((ha4.below HW).below h).more (by omega), ((hu.below HW).below h).more (by omega), ka.below h, ku.below h⟩
  have HT0 := Lib.hid (And.intro ha2 ha3)
  have HU0 := Lib.hid hu
  have HRL := Lib.hid (And.intro ha2.len ha3.len)
  have HWW := Lib.hid (And.intro HW hsW)
  have HKZ := Lib.hid kz
  have ZU := Lib.hid (hu.sz (by omega))
  clear ha2 ha3 ha4 hu ka ku kz
  go_cut [5] from 7 to 13 (fun xv wx => ∃ (X : Nat) (z : Rv), xv = .pointer (some ⟨X, 0, none⟩) ∧ Hid (XAt W wx X va.s z (k * r)))
  case first =>
    obtain ⟨a0, a1, a2, a3, a4⟩ := (HA1.out _ (Below.refl _ _)).2.2.1.facts
    obtain ⟨u0, u1, u2, _, _, _⟩ := (HA1.out _ (Below.refl _ _)).2.2.2.facts
    have hsL : w.heap.size + 3 ≤ W.heap.size := by omega
    have m1 : ¬ w.heap.size = W.heap.size := by omega
    have m2 : ¬ W.heap.size = w.heap.size := by omega
    have m3 : ¬ w.heap.size + 1 = W.heap.size := by omega
    have m4 : ¬ W.heap.size = w.heap.size + 1 := by omega
    clear hsW
    refine wp_region_held_drew (S := fun w' => w'.cell? ⟨w.heap.size, 0, none⟩ = some (.int .i64 va.s) ∧ w'.cell? ⟨w.heap.size, 2, none⟩ = some (.bool va.K.s) ∧ w'.cell? ⟨w.heap.size, 3, none⟩ = some (.slice va.K.A va.K.n va.K.c) ∧ w'.cell? ⟨w.heap.size, 4, none⟩ = some (.slice va.K.B va.K.m va.K.d) ∧ w'.cell? ⟨w.heap.size + 1, 0, none⟩ = some (.bool u.s) ∧ w'.cell? ⟨w.heap.size + 1, 1, none⟩ = some (.slice u.A u.n u.c) ∧ w'.cell? ⟨w.heap.size + 1, 2, none⟩ = some (.slice u.B u.m u.d)) (by kernel_rfl) ?_ (fun hHeld => ?_)
    · (try dsimp only)
      go_keep
    refine wpAnyH_take (i := 0) (oi := { dst := some 7, op := Op.fieldAddr 27 (Operand.tmp 2) 0, type := 0, pos := "aff.go:75", after := #[], guard := none }) (v := ?vq1x) rfl (by kernel_rfl) (by kernel_rfl) (by kernel_rfl) (fun _ _ _ h => h) (Or.inl ⟨by rfl, ?hyq1x⟩) (by assumption) ?restq1x
    case hyq1x =>
      intro w hSw
      (try dsimp only at hSw)
      go_simp
      all_goals (with_reducible rfl)
    try simp only [Act.put, List.setIfInBounds_toArray, List.set_cons_zero, List.set_cons_succ]
    refine wpAnyH_take (i := 1) (oi := { dst := some 8, op := Op.load 3 (Operand.tmp 7), type := 3, pos := "aff.go:75", after := #[{ on := 0, ground := Ground.data }], guard := none }) (v := ?vq2x) rfl (by kernel_rfl) (by kernel_rfl) (by kernel_rfl) (fun _ _ _ h => h) (Or.inl ⟨by rfl, ?hyq2x⟩) (by assumption) ?restq2x
    case hyq2x =>
      intro w hSw
      (try dsimp only at hSw)
      go_simp
      all_goals (with_reducible rfl)
    try simp only [Act.put, List.setIfInBounds_toArray, List.set_cons_zero, List.set_cons_succ]
    refine wpAnyH_take (i := 2) (oi := { dst := some 9, op := Op.fieldAddr 27 (Operand.tmp 2) 2, type := 0, pos := "aff.go:75", after := #[], guard := none }) (v := ?vq3x) rfl (by kernel_rfl) (by kernel_rfl) (by kernel_rfl) (fun _ _ _ h => h) (Or.inl ⟨by rfl, ?hyq3x⟩) (by assumption) ?restq3x
    case hyq3x =>
      intro w hSw
      (try dsimp only at hSw)
      go_simp
      all_goals (with_reducible rfl)
    try simp only [Act.put, List.setIfInBounds_toArray, List.set_cons_zero, List.set_cons_succ]
    refine wpAnyH_take (i := 3) (oi := { dst := some 10, op := Op.load 25 (Operand.tmp 9), type := 25, pos := "aff.go:75", after := #[{ on := 2, ground := Ground.data }], guard := none }) (v := ?vq4x) rfl (by kernel_rfl) (by kernel_rfl) (by kernel_rfl) (fun _ _ _ h => h) (Or.inl ⟨by rfl, ?hyq4x⟩) (by assumption) ?restq4x
    case hyq4x =>
      intro w hSw
      (try dsimp only at hSw)
      go_simp
      all_goals (with_reducible rfl)
    try simp only [Act.put, List.setIfInBounds_toArray, List.set_cons_zero, List.set_cons_succ]
    refine wpAnyH_take (i := 4) (oi := { dst := some 11, op := Op.load 25 (Operand.tmp 3), type := 25, pos := "aff.go:75", after := #[], guard := none }) (v := ?vq5x) rfl (by kernel_rfl) (by kernel_rfl) (by kernel_rfl) (fun _ _ _ h => h) (Or.inl ⟨by rfl, ?hyq5x⟩) (by assumption) ?restq5x
    case hyq5x =>
      intro w hSw
      (try dsimp only at hSw)
      go_simp
      all_goals (with_reducible rfl)
    try simp only [Act.put, List.setIfInBounds_toArray, List.set_cons_zero, List.set_cons_succ]
    refine wpAnyH_ready (rs := [5, 7]) (by kernel_rfl) (by simp) ?_
    refine AllReadyH.cons (o := { dst := some 12, op := Op.call { callee := Callee.value (Operand.func 39), args := #[Operand.tmp 10, Operand.tmp 11], argTypes := #[25, 25] }, type := 25, pos := "aff.go:75", after := #[{ on := 3, ground := Ground.data }, { on := 4, ground := Ground.data }], guard := none }) rfl (fun K hK => ?_) (AllReadyH.cons (o := { dst := some 5, op := Op.alloc 27, type := 0, pos := "aff.go:75", after := #[], guard := none }) rfl (fun K hK => ?_) AllReadyH.nil)
    · skip
      try go_simp
      go_at_call 39
      refine (rMul_c va.K u k r _ (HA1.out _ ?_).1 (HA1.out _ ?_).2.1).mono ?_
      · first
        | (with_reducible exact bel_At W)
        | (with_reducible exact ((Below.refl _ _).alloc (Nat.le_refl _) _).drew)
      · first
        | (with_reducible exact bel_At W)
        | (with_reducible exact ((Below.refl _ _).alloc (Nat.le_refl _) _).drew)
      rintro ee w2 ⟨z, rfl, hz, hb⟩
      have hbW : Below W.heap.size W w2 := by
        first
        | (have hbq : Below W.drew.heap.size W.drew w2 := by with_reducible exact hb
           exact (bel_At W).trans hbq)
        | (have hbq : Below (W.alloc (.cells #[.int .i64 0, .slice none 0 0, .bool false, .slice none 0 0, .slice none 0 0] 27)).drew.heap.size (W.alloc (.cells #[.int .i64 0, .slice none 0 0, .bool false, .slice none 0 0, .slice none 0 0] 27)).drew w2 := by with_reducible exact hb
           exact (((Below.refl _ _).alloc (Nat.le_refl _) _).drew).trans (hbq.mono (by simp)))
      first
      | (have hbq : Below (W.alloc (.cells #[.int .i64 0, .slice none 0 0, .bool false, .slice none 0 0, .slice none 0 0] 27)).drew.heap.size (W.alloc (.cells #[.int .i64 0, .slice none 0 0, .bool false, .slice none 0 0, .slice none 0 0] 27)).drew w2 := by with_reducible exact hb
         have kl0 : C5 (W.alloc (.cells #[.int .i64 0, .slice none 0 0, .bool false, .slice none 0 0, .slice none 0 0] 27)).drew W.heap.size (.int .i64 0) (.slice none 0 0) (.bool false) (.slice none 0 0) (.slice none 0 0) := C5.new W (.int .i64 0) (.slice none 0 0) (.bool false) (.slice none 0 0) (.slice none 0 0)
         have KN := Lib.hid (And.intro (kl0.below hbq) (show W.heap.size < (W.alloc (.cells #[.int .i64 0, .slice none 0 0, .bool false, .slice none 0 0, .slice none 0 0] 27)).drew.heap.size by simp))
         clear kl0
         obtain ⟨q0, q1, q2, q3, q4⟩ := KN.out.1.facts
         obtain ⟨t0, t1, t2, t3, t4⟩ := KN.out.1.thaw
         clear hbq)
      | skip
      obtain ⟨a0, a1, a2, a3, a4⟩ := (HA1.out _ hbW).2.2.1.facts
      obtain ⟨u0, u1, u2, _, _, _⟩ := (HA1.out _ hbW).2.2.2.facts
      have HZ := Lib.hid hz
      have HW2 := Lib.hid hbW
      have hz2 := hbW.size
      have m5 : ¬ w.heap.size = w2.heap.size := by omega
      have m6 : ¬ w2.heap.size = w.heap.size := by omega
      have m7 : ¬ w.heap.size + 1 = w2.heap.size := by omega
      have m8 : ¬ w2.heap.size = w.heap.size + 1 := by omega
      clear hb hbW hz
      try go_wp2_with fail
      refine hK.out _ _ ?_ (fun hHeld => ?_)
      · (try dsimp only)
        go_keep
      clear hK K
      try simp only [Act.put, List.setIfInBounds_toArray, List.set_cons_zero, List.set_cons_succ]
      refine wpAnyH_take (i := 6) (oi := { dst := some 13, op := Op.build 27 #[(0, Operand.tmp 8), (2, Operand.tmp 12)], type := 27, pos := "aff.go:75", after := #[{ on := 1, ground := Ground.data }, { on := 5, ground := Ground.data }], guard := none }) (v := ?vq6x) rfl (by kernel_rfl) (by kernel_rfl) (by kernel_rfl) (fun _ _ _ h => h) (Or.inl ⟨by rfl, ?hyq6x⟩) (by assumption) ?restq6x
      case hyq6x =>
        intro w hSw
        (try dsimp only at hSw)
        go_simp
        all_goals (with_reducible rfl)
      try simp only [Act.put, List.setIfInBounds_toArray, List.set_cons_zero, List.set_cons_succ]
      refine wpAnyH_ready (rs := [7]) (by kernel_rfl) (by simp) ?_
      refine AllReadyH.cons (o := { dst := some 5, op := Op.alloc 27, type := 0, pos := "aff.go:75", after := #[], guard := none }) rfl (fun K hK => ?_) AllReadyH.nil
      try go_simp
      try go_wp2_with fail
      refine hK.out _ _ ?_ (fun hHeld => ?_)
      · (try dsimp only)
        go_keep
      clear hK K
      try simp only [Act.put, List.setIfInBounds_toArray, List.set_cons_zero, List.set_cons_succ]
      refine wpAnyH_ready (rs := [8]) (by kernel_rfl) (by simp) ?_
      refine AllReadyH.cons (o := { dst := none, op := Op.store 27 (Operand.tmp 5) (Operand.tmp 13), type := 0, pos := "aff.go:75", after := #[{ on := 7, ground := Ground.data }, { on := 6, ground := Ground.data }, { on := 5, ground := Ground.chain }, { on := 0, ground := Ground.phase }, { on := 1, ground := Ground.phase }, { on := 2, ground := Ground.phase }, { on := 3, ground := Ground.phase }, { on := 4, ground := Ground.phase }, { on := 5, ground := Ground.phase }, { on := 6, ground := Ground.phase }, { on := 7, ground := Ground.phase }], guard := none }) rfl (fun K hK => ?_) AllReadyH.nil
      try go_simp
      try go_wp2_with fail
      refine hK.out _ _ ?_ (fun hHeld => ?_)
      · (try dsimp only)
        go_keep
      clear hK K
      try simp only [Act.put, List.setIfInBounds_toArray, List.set_cons_zero, List.set_cons_succ]
      refine wpAnyH_done (by kernel_rfl) ?_ _
      go_wp2_with fail
      go_meet
      first
      | exact ⟨_, z, rfl, Lib.hid (XAt.put KN.out.1 KN.out.2 HW2.out HZ.out)⟩
      | exact ⟨_, z, rfl, Lib.hid (XAt.new HW2.out HZ.out (show W.heap.size ≤ W.drew.heap.size from Nat.le_refl _))⟩
    · skip
      try go_simp
      try go_wp2_with fail
      refine hK.out _ _ ?_ (fun hHeld => ?_)
      · (try dsimp only)
        go_keep
      clear hK K
      try simp only [Act.put, List.setIfInBounds_toArray, List.set_cons_zero, List.set_cons_succ]
      refine wpAnyH_ready (rs := [5]) (by kernel_rfl) (by simp) ?_
      refine AllReadyH.cons (o := { dst := some 12, op := Op.call { callee := Callee.value (Operand.func 39), args := #[Operand.tmp 10, Operand.tmp 11], argTypes := #[25, 25] }, type := 25, pos := "aff.go:75", after := #[{ on := 3, ground := Ground.data }, { on := 4, ground := Ground.data }], guard := none }) rfl (fun K hK => ?_) AllReadyH.nil
      try go_simp
      go_at_call 39
      refine (rMul_c va.K u k r _ (HA1.out _ ?_).1 (HA1.out _ ?_).2.1).mono ?_
      · first
        | (with_reducible exact bel_At W)
        | (with_reducible exact ((Below.refl _ _).alloc (Nat.le_refl _) _).drew)
      · first
        | (with_reducible exact bel_At W)
        | (with_reducible exact ((Below.refl _ _).alloc (Nat.le_refl _) _).drew)
      rintro ee w2 ⟨z, rfl, hz, hb⟩
      have hbW : Below W.heap.size W w2 := by
        first
        | (have hbq : Below W.drew.heap.size W.drew w2 := by with_reducible exact hb
           exact (bel_At W).trans hbq)
        | (have hbq : Below (W.alloc (.cells #[.int .i64 0, .slice none 0 0, .bool false, .slice none 0 0, .slice none 0 0] 27)).drew.heap.size (W.alloc (.cells #[.int .i64 0, .slice none 0 0, .bool false, .slice none 0 0, .slice none 0 0] 27)).drew w2 := by with_reducible exact hb
           exact (((Below.refl _ _).alloc (Nat.le_refl _) _).drew).trans (hbq.mono (by simp)))
      first
      | (have hbq : Below (W.alloc (.cells #[.int .i64 0, .slice none 0 0, .bool false, .slice none 0 0, .slice none 0 0] 27)).drew.heap.size (W.alloc (.cells #[.int .i64 0, .slice none 0 0, .bool false, .slice none 0 0, .slice none 0 0] 27)).drew w2 := by with_reducible exact hb
         have kl0 : C5 (W.alloc (.cells #[.int .i64 0, .slice none 0 0, .bool false, .slice none 0 0, .slice none 0 0] 27)).drew W.heap.size (.int .i64 0) (.slice none 0 0) (.bool false) (.slice none 0 0) (.slice none 0 0) := C5.new W (.int .i64 0) (.slice none 0 0) (.bool false) (.slice none 0 0) (.slice none 0 0)
         have KN := Lib.hid (And.intro (kl0.below hbq) (show W.heap.size < (W.alloc (.cells #[.int .i64 0, .slice none 0 0, .bool false, .slice none 0 0, .slice none 0 0] 27)).drew.heap.size by simp))
         clear kl0
         obtain ⟨q0, q1, q2, q3, q4⟩ := KN.out.1.facts
         obtain ⟨t0, t1, t2, t3, t4⟩ := KN.out.1.thaw
         clear hbq)
      | skip
      obtain ⟨a0, a1, a2, a3, a4⟩ := (HA1.out _ hbW).2.2.1.facts
      obtain ⟨u0, u1, u2, _, _, _⟩ := (HA1.out _ hbW).2.2.2.facts
      have HZ := Lib.hid hz
      have HW2 := Lib.hid hbW
      have hz2 := hbW.size
      have m5 : ¬ w.heap.size = w2.heap.size := by omega
      have m6 : ¬ w2.heap.size = w.heap.size := by omega
      have m7 : ¬ w.heap.size + 1 = w2.heap.size := by omega
      have m8 : ¬ w2.heap.size = w.heap.size + 1 := by omega
      clear hb hbW hz
      try go_wp2_with fail
      refine hK.out _ _ ?_ (fun hHeld => ?_)
      · (try dsimp only)
        go_keep
      clear hK K
      try simp only [Act.put, List.setIfInBounds_toArray, List.set_cons_zero, List.set_cons_succ]
      refine wpAnyH_take (i := 6) (oi := { dst := some 13, op := Op.build 27 #[(0, Operand.tmp 8), (2, Operand.tmp 12)], type := 27, pos := "aff.go:75", after := #[{ on := 1, ground := Ground.data }, { on := 5, ground := Ground.data }], guard := none }) (v := ?vq7x) rfl (by kernel_rfl) (by kernel_rfl) (by kernel_rfl) (fun _ _ _ h => h) (Or.inl ⟨by rfl, ?hyq7x⟩) (by assumption) ?restq7x
      case hyq7x =>
        intro w hSw
        (try dsimp only at hSw)
        go_simp
        all_goals (with_reducible rfl)
      try simp only [Act.put, List.setIfInBounds_toArray, List.set_cons_zero, List.set_cons_succ]
      refine wpAnyH_ready (rs := [8]) (by kernel_rfl) (by simp) ?_
      refine AllReadyH.cons (o := { dst := none, op := Op.store 27 (Operand.tmp 5) (Operand.tmp 13), type := 0, pos := "aff.go:75", after := #[{ on := 7, ground := Ground.data }, { on := 6, ground := Ground.data }, { on := 5, ground := Ground.chain }, { on := 0, ground := Ground.phase }, { on := 1, ground := Ground.phase }, { on := 2, ground := Ground.phase }, { on := 3, ground := Ground.phase }, { on := 4, ground := Ground.phase }, { on := 5, ground := Ground.phase }, { on := 6, ground := Ground.phase }, { on := 7, ground := Ground.phase }], guard := none }) rfl (fun K hK => ?_) AllReadyH.nil
      try go_simp
      try go_wp2_with fail
      refine hK.out _ _ ?_ (fun hHeld => ?_)
      · (try dsimp only)
        go_keep
      clear hK K
      try simp only [Act.put, List.setIfInBounds_toArray, List.set_cons_zero, List.set_cons_succ]
      refine wpAnyH_done (by kernel_rfl) ?_ _
      go_wp2_with fail
      go_meet
      first
      | exact ⟨_, z, rfl, Lib.hid (XAt.put KN.out.1 KN.out.2 HW2.out HZ.out)⟩
      | exact ⟨_, z, rfl, Lib.hid (XAt.new HW2.out HZ.out (show W.heap.size ≤ W.drew.heap.size from Nat.le_refl _))⟩
  case rest =>
    obtain ⟨X, zk, rfl, HX0⟩ := hcut
    have hXl := HX0.out.lo
    have hXt := HX0.out.lt
    have hsW' := HX0.out.below.size
    rename_i wx0
    clear hsW
    have hsW2 : w.heap.size + 3 = W.heap.size := by have := HWW.out.2; omega
    have HALL0 : Hid (∀ w', (wc.heap.size ≤ w'.heap.size ∧ Kept wc.heap.size X wc w') → C5 w' w.heap.size (.int .i64 va.s) (.slice va.A va.n va.c) (.bool va.K.s) (.slice va.K.A va.K.n va.K.c) (.slice va.K.B va.K.m va.K.d) ∧ C3 w' (w.heap.size + 1) (.bool u.s) (.slice u.A u.n u.c) (.slice u.B u.m u.d) ∧ C5 w' (w.heap.size + 1 + 1) (.int .i64 0) (.slice none 0 0) (.bool false) (.slice none 0 0) (.slice none 0 0)) := fun w' h => by
      have h0 := HA1.out _ HX0.out.below
      have hz := HKZ.out.below HX0.out.below
      exact ⟨(h.2 _ (by omega) (by omega)).trans h0.2.2.1, (h.2 _ (by omega) (by omega)).trans h0.2.2.2, (h.2 _ (by omega) (by omega)).trans hz⟩
    have HSC : Hid (RSc w wc wc X va.s zk r L 0 none 0 0 [] []) := ⟨HX0.out.cell, Gr.nil_ _ _, rfl, ⟨Nat.le_refl _, fun g _ _ => rfl⟩, HWW.out.1.trans (HX0.out.below.mono (by omega)), ⟨by omega, hXt⟩, Nat.le_refl _⟩
    go_wp2
    go_loopw [6] (fun iv wr => ∃ (i : Nat) (R : Option Addr) (p e : Nat) (ls : List Tv) (D : List (Int × Rat)), i ≤ va.n ∧ iv = .int .i64 i ∧ Hid (RSc w wc wr X va.s zk r L i R p e ls D)) (fun iv _ => va.n - (intOf iv).toNat)
    case atStart => exact ⟨0, none, 0, 0, [], [], by omega, rfl, HSC⟩
    case round =>
      clear HSC
      obtain ⟨i, R, p, e, ls, D, hi, rfl, HIN⟩ := hrel
      have hle := HIN.out.le
      have hsz := HIN.out.sz.1
      obtain ⟨a0, a1, a2, a3, a4⟩ := (HALL0.out _ HIN.out.sz).1.facts
      obtain ⟨u0, u1, u2, _, _, _⟩ := (HALL0.out _ HIN.out.sz).2.1.facts
      by_cases hlt : i < va.n
      · have i0 : (0 : Int) ≤ (i : Int) := by omega
        have i1 : (i : Int) < (va.n : Int) := by omega
        obtain ⟨b, off, hvA, _, hbw, hc⟩ := HT0.out.1.mem (by omega)
        obtain ⟨x, Y, hx, hX, hxv, hxr⟩ := HT0.out.2.get i (by rw [HRL.out.1]; omega)
        have HVA := Lib.hid hvA
        have HX := Lib.hid (And.intro hX hxv)
        have HXC := Lib.hid (hc i x hx)
        have HXR := Lib.hid hxr
        have HSZ : Hid (Sz (Y.2 * r) (900 + 900)) := (hxr.sz (by omega)).mul ZU.out
        have HALL : Hid (∀ w', (wc.heap.size ≤ w'.heap.size ∧ Kept wc.heap.size X wc w') → C5 w' w.heap.size (.int .i64 va.s) (.slice va.A va.n va.c) (.bool va.K.s) (.slice va.K.A va.K.n va.K.c) (.slice va.K.B va.K.m va.K.d) ∧ C3 w' (w.heap.size + 1) (.bool u.s) (.slice u.A u.n u.c) (.slice u.B u.m u.d) ∧ At4 w' b (off + i * 4) x) := fun w' h =>
          ⟨(HALL0.out _ h).1, (HALL0.out _ h).2.1, HXC.out.keep ((h.2 b (by omega) (by omega)).trans ((HX0.out.below.block b (by omega)).trans (HWW.out.1.block b hbw)))⟩
        have HBEL : Hid (∀ w', Below wr.heap.size wr w' → C5 w' X (.int .i64 va.s) (.slice R p e) (.bool zk.s) (.slice zk.A zk.n zk.c) (.slice zk.B zk.m zk.d) ∧ Rw w' x.r Y.2 1900 ∧ Rw w' u r 1900) := fun w' h =>
          ⟨HIN.out.cx.below h, (HXR.out.below (HIN.out.below.trans (h.mono HIN.out.below.size))).more (by omega), (HU0.out.below (HIN.out.below.trans (h.mono HIN.out.below.size))).more (by omega)⟩
        rw [hvA] at a1
        clear hx hX hxv hxr hc hvA
        obtain ⟨x0, x1, x2, x3⟩ := (HALL.out _ HIN.out.sz).2.2
        obtain ⟨s0, s1, s2, s3, s4⟩ := HIN.out.cx.facts
        obtain ⟨t0, t1, t2, t3, t4⟩ := HIN.out.cx.thaw
        have n1 : ¬ w.heap.size = X := by omega
        have n2 : ¬ X = w.heap.size := by omega
        have n3 : ¬ w.heap.size + 1 = X := by omega
        have n4 : ¬ X = w.heap.size + 1 := by omega
        have n5 : ¬ b = X := by omega
        have n6 : ¬ X = b := by omega
        go_wp2_with fail
        refine wp_region_held_drew (S := fun w' => w'.cell? ⟨w.heap.size, 1, none⟩ = some (.slice (some ⟨b, off, none⟩) va.n va.c) ∧ w'.cell? ⟨w.heap.size + 1, 0, none⟩ = some (.bool u.s) ∧ w'.cell? ⟨w.heap.size + 1, 1, none⟩ = some (.slice u.A u.n u.c) ∧ w'.cell? ⟨w.heap.size + 1, 2, none⟩ = some (.slice u.B u.m u.d) ∧ w'.cell? ⟨b, off + i * 4, none⟩ = some (.int .i64 x.v) ∧ w'.cell? ⟨b, off + i * 4 + 1, none⟩ = some (.bool x.r.s) ∧ w'.cell? ⟨b, off + i * 4 + 2, none⟩ = some (.slice x.r.A x.r.n x.r.c) ∧ w'.cell? ⟨b, off + i * 4 + 3, none⟩ = some (.slice x.r.B x.r.m x.r.d)) (by kernel_rfl) ?_ (fun hHeld => ?_)
        · (try dsimp only)
          go_keep
        refine wpAnyH_take (i := 0) (oi := { dst := some 21, op := Op.fieldAddr 27 (Operand.tmp 5) 1, type := 0, pos := "aff.go:77", after := #[], guard := none }) (v := ?vq8x) rfl (by kernel_rfl) (by kernel_rfl) (by kernel_rfl) (fun _ _ _ h => h) (Or.inl ⟨by rfl, ?hyq8x⟩) (by assumption) ?restq8x
        case hyq8x =>
          intro w hSw
          (try dsimp only at hSw)
          go_simp
          all_goals (with_reducible rfl)
        try simp only [Act.put, List.setIfInBounds_toArray, List.set_cons_zero, List.set_cons_succ]
        refine wpAnyH_take (i := 2) (oi := { dst := some 23, op := Op.fieldAddr 27 (Operand.tmp 2) 1, type := 0, pos := "aff.go:77", after := #[], guard := none }) (v := ?vq9x) rfl (by kernel_rfl) (by kernel_rfl) (by kernel_rfl) (fun _ _ _ h => h) (Or.inl ⟨by rfl, ?hyq9x⟩) (by assumption) ?restq9x
        case hyq9x =>
          intro w hSw
          (try dsimp only at hSw)
          go_simp
          all_goals (with_reducible rfl)
        try simp only [Act.put, List.setIfInBounds_toArray, List.set_cons_zero, List.set_cons_succ]
        refine wpAnyH_take (i := 3) (oi := { dst := some 24, op := Op.load 22 (Operand.tmp 23), type := 22, pos := "aff.go:77", after := #[{ on := 2, ground := Ground.data }], guard := none }) (v := ?vq10x) rfl (by kernel_rfl) (by kernel_rfl) (by kernel_rfl) (fun _ _ _ h => h) (Or.inl ⟨by rfl, ?hyq10x⟩) (by assumption) ?restq10x
        case hyq10x =>
          intro w hSw
          (try dsimp only at hSw)
          go_simp
          all_goals (with_reducible rfl)
        try simp only [Act.put, List.setIfInBounds_toArray, List.set_cons_zero, List.set_cons_succ]
        refine wpAnyH_take (i := 4) (oi := { dst := some 25, op := Op.move (Operand.tmp 6), type := 3, pos := "aff.go:77", after := #[], guard := none }) (v := ?vq11x) rfl (by kernel_rfl) (by kernel_rfl) (by kernel_rfl) (fun _ _ _ h => h) (Or.inl ⟨by rfl, ?hyq11x⟩) (by assumption) ?restq11x
        case hyq11x =>
          intro w hSw
          (try dsimp only at hSw)
          go_simp
          all_goals (with_reducible rfl)
        try simp only [Act.put, List.setIfInBounds_toArray, List.set_cons_zero, List.set_cons_succ]
        refine wpAnyH_take (i := 5) (oi := { dst := some 26, op := Op.indexAddr 22 (Operand.tmp 24) (Operand.tmp 25), type := 0, pos := "aff.go:77", after := #[{ on := 3, ground := Ground.data }, { on := 4, ground := Ground.data }], guard := none }) (v := ?vq12x) rfl (by kernel_rfl) (by kernel_rfl) (by kernel_rfl) (fun _ _ _ h => h) (Or.inl ⟨by rfl, ?hyq12x⟩) (by assumption) ?restq12x
        case hyq12x =>
          intro w hSw
          (try dsimp only at hSw)
          go_simp
          all_goals (with_reducible rfl)
        try simp only [Act.put, List.setIfInBounds_toArray, List.set_cons_zero, List.set_cons_succ]
        refine wpAnyH_take (i := 6) (oi := { dst := some 27, op := Op.fieldAddr 61 (Operand.tmp 26) 0, type := 0, pos := "aff.go:77", after := #[{ on := 5, ground := Ground.data }], guard := none }) (v := ?vq13x) rfl (by kernel_rfl) (by kernel_rfl) (by kernel_rfl) (fun _ _ _ h => h) (Or.inl ⟨by rfl, ?hyq13x⟩) (by assumption) ?restq13x
        case hyq13x =>
          intro w hSw
          (try dsimp only at hSw)
          go_simp
          all_goals (with_reducible rfl)
        try simp only [Act.put, List.setIfInBounds_toArray, List.set_cons_zero, List.set_cons_succ]
        refine wpAnyH_take (i := 7) (oi := { dst := some 28, op := Op.load 3 (Operand.tmp 27), type := 3, pos := "aff.go:77", after := #[{ on := 6, ground := Ground.data }], guard := none }) (v := ?vq14x) rfl (by kernel_rfl) (by kernel_rfl) (by kernel_rfl) (fun _ _ _ h => h) (Or.inl ⟨by rfl, ?hyq14x⟩) (by assumption) ?restq14x
        case hyq14x =>
          intro w hSw
          (try dsimp only at hSw)
          go_simp
          all_goals (with_reducible rfl)
        try simp only [Act.put, List.setIfInBounds_toArray, List.set_cons_zero, List.set_cons_succ]
        refine wpAnyH_take (i := 8) (oi := { dst := some 29, op := Op.fieldAddr 27 (Operand.tmp 2) 1, type := 0, pos := "aff.go:77", after := #[], guard := none }) (v := ?vq15x) rfl (by kernel_rfl) (by kernel_rfl) (by kernel_rfl) (fun _ _ _ h => h) (Or.inl ⟨by rfl, ?hyq15x⟩) (by assumption) ?restq15x
        case hyq15x =>
          intro w hSw
          (try dsimp only at hSw)
          go_simp
          all_goals (with_reducible rfl)
        try simp only [Act.put, List.setIfInBounds_toArray, List.set_cons_zero, List.set_cons_succ]
        refine wpAnyH_take (i := 9) (oi := { dst := some 30, op := Op.load 22 (Operand.tmp 29), type := 22, pos := "aff.go:77", after := #[{ on := 8, ground := Ground.data }], guard := none }) (v := ?vq16x) rfl (by kernel_rfl) (by kernel_rfl) (by kernel_rfl) (fun _ _ _ h => h) (Or.inl ⟨by rfl, ?hyq16x⟩) (by assumption) ?restq16x
        case hyq16x =>
          intro w hSw
          (try dsimp only at hSw)
          go_simp
          all_goals (with_reducible rfl)
        try simp only [Act.put, List.setIfInBounds_toArray, List.set_cons_zero, List.set_cons_succ]
        refine wpAnyH_take (i := 10) (oi := { dst := some 31, op := Op.move (Operand.tmp 6), type := 3, pos := "aff.go:77", after := #[], guard := none }) (v := ?vq17x) rfl (by kernel_rfl) (by kernel_rfl) (by kernel_rfl) (fun _ _ _ h => h) (Or.inl ⟨by rfl, ?hyq17x⟩) (by assumption) ?restq17x
        case hyq17x =>
          intro w hSw
          (try dsimp only at hSw)
          go_simp
          all_goals (with_reducible rfl)
        try simp only [Act.put, List.setIfInBounds_toArray, List.set_cons_zero, List.set_cons_succ]
        refine wpAnyH_take (i := 11) (oi := { dst := some 32, op := Op.indexAddr 22 (Operand.tmp 30) (Operand.tmp 31), type := 0, pos := "aff.go:77", after := #[{ on := 9, ground := Ground.data }, { on := 10, ground := Ground.data }], guard := none }) (v := ?vq18x) rfl (by kernel_rfl) (by kernel_rfl) (by kernel_rfl) (fun _ _ _ h => h) (Or.inl ⟨by rfl, ?hyq18x⟩) (by assumption) ?restq18x
        case hyq18x =>
          intro w hSw
          (try dsimp only at hSw)
          go_simp
          all_goals (with_reducible rfl)
        try simp only [Act.put, List.setIfInBounds_toArray, List.set_cons_zero, List.set_cons_succ]
        refine wpAnyH_take (i := 12) (oi := { dst := some 33, op := Op.fieldAddr 61 (Operand.tmp 32) 1, type := 0, pos := "aff.go:77", after := #[{ on := 11, ground := Ground.data }], guard := none }) (v := ?vq19x) rfl (by kernel_rfl) (by kernel_rfl) (by kernel_rfl) (fun _ _ _ h => h) (Or.inl ⟨by rfl, ?hyq19x⟩) (by assumption) ?restq19x
        case hyq19x =>
          intro w hSw
          (try dsimp only at hSw)
          go_simp
          all_goals (with_reducible rfl)
        try simp only [Act.put, List.setIfInBounds_toArray, List.set_cons_zero, List.set_cons_succ]
        refine wpAnyH_take (i := 13) (oi := { dst := some 34, op := Op.load 25 (Operand.tmp 33), type := 25, pos := "aff.go:77", after := #[{ on := 12, ground := Ground.data }], guard := none }) (v := ?vq20x) rfl (by kernel_rfl) (by kernel_rfl) (by kernel_rfl) (fun _ _ _ h => h) (Or.inl ⟨by rfl, ?hyq20x⟩) (by assumption) ?restq20x
        case hyq20x =>
          intro w hSw
          (try dsimp only at hSw)
          go_simp
          all_goals (with_reducible rfl)
        try simp only [Act.put, List.setIfInBounds_toArray, List.set_cons_zero, List.set_cons_succ]
        refine wpAnyH_take (i := 14) (oi := { dst := some 35, op := Op.load 25 (Operand.tmp 3), type := 25, pos := "aff.go:77", after := #[], guard := none }) (v := ?vq21x) rfl (by kernel_rfl) (by kernel_rfl) (by kernel_rfl) (fun _ _ _ h => h) (Or.inl ⟨by rfl, ?hyq21x⟩) (by assumption) ?restq21x
        case hyq21x =>
          intro w hSw
          (try dsimp only at hSw)
          go_simp
          all_goals (with_reducible rfl)
        try simp only [Act.put, List.setIfInBounds_toArray, List.set_cons_zero, List.set_cons_succ]
        refine wpAnyH_ready (rs := [1, 15]) (by kernel_rfl) (by simp) ?_
        refine AllReadyH.cons (o := { dst := some 22, op := Op.load 22 (Operand.tmp 21), type := 22, pos := "aff.go:77", after := #[{ on := 0, ground := Ground.data }], guard := none }) rfl (fun K hK => ?_) (AllReadyH.cons (o := { dst := some 36, op := Op.call { callee := Callee.value (Operand.func 39), args := #[Operand.tmp 34, Operand.tmp 35], argTypes := #[25, 25] }, type := 25, pos := "aff.go:77", after := #[{ on := 13, ground := Ground.data }, { on := 14, ground := Ground.data }], guard := none }) rfl (fun K hK => ?_) AllReadyH.nil)
        · skip
          try go_simp
          try go_wp2_with fail
          refine hK.out _ _ ?_ (fun hHeld => ?_)
          · (try dsimp only)
            go_keep
          clear hK K
          try simp only [Act.put, List.setIfInBounds_toArray, List.set_cons_zero, List.set_cons_succ]
          refine wpAnyH_ready (rs := [15]) (by kernel_rfl) (by simp) ?_
          refine AllReadyH.cons (o := { dst := some 36, op := Op.call { callee := Callee.value (Operand.func 39), args := #[Operand.tmp 34, Operand.tmp 35], argTypes := #[25, 25] }, type := 25, pos := "aff.go:77", after := #[{ on := 13, ground := Ground.data }, { on := 14, ground := Ground.data }], guard := none }) rfl (fun K hK => ?_) AllReadyH.nil
          try go_simp
          go_at_call 39
          refine (rMul_c x.r u Y.2 r _ (HBEL.out _ (bel_At wr)).2.1 (HBEL.out _ (bel_At wr)).2.2).mono ?_
          rintro ee w3 ⟨y, rfl, hy, hb⟩
          have hbW := (bel_At wr).trans hb
          have hk := kept_below hbW HIN.out.sz
          clear a0 a1 a2 a3 a4 u0 u1 u2 x0 x1 x2 x3 s0 s1 s2 s3 s4 t0 t1 t2 t3 t4
          obtain ⟨a0, a1, a2, a3, a4⟩ := (HALL.out _ hk).1.facts
          rw [HVA.out] at a1
          obtain ⟨u0, u1, u2, _, _, _⟩ := (HALL.out _ hk).2.1.facts
          obtain ⟨x0, x1, x2, x3⟩ := (HALL.out _ hk).2.2
          obtain ⟨s0, s1, s2, s3, s4⟩ := ((HBEL.out _ hbW).1).facts
          obtain ⟨t0, t1, t2, t3, t4⟩ := ((HBEL.out _ hbW).1).thaw
          have HY := Lib.hid hy
          have HG3 := Lib.hid (HIN.out.gr.below hbW)
          have HW3 := Lib.hid hbW
          have hz3 : wr.heap.size ≤ w3.heap.size := hbW.size
          clear hb hbW hk hy
          try go_wp2_with fail
          refine hK.out _ _ ?_ (fun hHeld => ?_)
          · (try dsimp only)
            go_keep
          clear hK K
          try simp only [Act.put, List.setIfInBounds_toArray, List.set_cons_zero, List.set_cons_succ]
          refine wpAnyH_ready (rs := [16]) (by kernel_rfl) (by simp) ?_
          refine AllReadyH.cons (o := { dst := some 37, op := Op.call { callee := Callee.value (Operand.func 36), args := #[Operand.tmp 22, Operand.tmp 28, Operand.tmp 36], argTypes := #[22, 3, 25] }, type := 22, pos := "aff.go:77", after := #[{ on := 1, ground := Ground.data }, { on := 7, ground := Ground.data }, { on := 15, ground := Ground.data }, { on := 15, ground := Ground.chain }], guard := none }) rfl (fun K hK => ?_) AllReadyH.nil
          try go_simp
          go_at_call 36
          refine (lay_c R p e wc.heap.size ls D x.v y (Y.2 * r) _ HG3.out ((HY.out.rw HSZ.out).more (by omega)) (by omega) (by omega)).mono ?_
          rintro ee w4 ⟨R2, c2, p2, ls2, rfl, hp2, hg2, hb, _, _⟩
          have hk := kept_lo (kept_below HW3.out HIN.out.sz) hb
          clear a0 a1 a2 a3 a4 u0 u1 u2 x0 x1 x2 x3 s0 s1 s2 s3 s4 t0 t1 t2 t3 t4
          obtain ⟨a0, a1, a2, a3, a4⟩ := (HALL.out _ hk).1.facts
          rw [HVA.out] at a1
          obtain ⟨u0, u1, u2, _, _, _⟩ := (HALL.out _ hk).2.1.facts
          obtain ⟨x0, x1, x2, x3⟩ := (HALL.out _ hk).2.2
          obtain ⟨s0, s1, s2, s3, s4⟩ := ((HBEL.out _ HW3.out).1.at hb HX0.out.lt).facts
          obtain ⟨t0, t1, t2, t3, t4⟩ := ((HBEL.out _ HW3.out).1.at hb HX0.out.lt).thaw
          have HG4 := Lib.hid hg2
          have HB4 := Lib.hid (And.intro hk (And.intro HW3.out hb))
          clear hb hk hg2
          try go_wp2_with fail
          refine hK.out _ _ ?_ (fun hHeld => ?_)
          · (try dsimp only)
            go_keep
          clear hK K
          try simp only [Act.put, List.setIfInBounds_toArray, List.set_cons_zero, List.set_cons_succ]
          refine wpAnyH_take (i := 17) (oi := { dst := some 38, op := Op.fieldAddr 27 (Operand.tmp 5) 1, type := 0, pos := "aff.go:77", after := #[{ on := 0, ground := Ground.phase }, { on := 1, ground := Ground.phase }, { on := 2, ground := Ground.phase }, { on := 3, ground := Ground.phase }, { on := 4, ground := Ground.phase }, { on := 5, ground := Ground.phase }, { on := 6, ground := Ground.phase }, { on := 7, ground := Ground.phase }, { on := 8, ground := Ground.phase }, { on := 9, ground := Ground.phase }, { on := 10, ground := Ground.phase }, { on := 11, ground := Ground.phase }, { on := 12, ground := Ground.phase }, { on := 13, ground := Ground.phase }, { on := 14, ground := Ground.phase }, { on := 15, ground := Ground.phase }, { on := 16, ground := Ground.phase }], guard := none }) (v := ?vq22x) rfl (by kernel_rfl) (by kernel_rfl) (by kernel_rfl) (fun _ _ _ h => h) (Or.inl ⟨by rfl, ?hyq22x⟩) (by assumption) ?restq22x
          case hyq22x =>
            intro w hSw
            (try dsimp only at hSw)
            go_simp
            all_goals (with_reducible rfl)
          try simp only [Act.put, List.setIfInBounds_toArray, List.set_cons_zero, List.set_cons_succ]
          refine wpAnyH_ready (rs := [18]) (by kernel_rfl) (by simp) ?_
          refine AllReadyH.cons (o := { dst := none, op := Op.store 22 (Operand.tmp 38) (Operand.tmp 37), type := 0, pos := "aff.go:77", after := #[{ on := 17, ground := Ground.data }, { on := 16, ground := Ground.data }, { on := 16, ground := Ground.chain }, { on := 0, ground := Ground.phase }, { on := 1, ground := Ground.phase }, { on := 2, ground := Ground.phase }, { on := 3, ground := Ground.phase }, { on := 4, ground := Ground.phase }, { on := 5, ground := Ground.phase }, { on := 6, ground := Ground.phase }, { on := 7, ground := Ground.phase }, { on := 8, ground := Ground.phase }, { on := 9, ground := Ground.phase }, { on := 10, ground := Ground.phase }, { on := 11, ground := Ground.phase }, { on := 12, ground := Ground.phase }, { on := 13, ground := Ground.phase }, { on := 14, ground := Ground.phase }, { on := 15, ground := Ground.phase }, { on := 16, ground := Ground.phase }], guard := none }) rfl (fun K hK => ?_) AllReadyH.nil
          try go_simp
          try go_wp2_with fail
          refine hK.out _ _ ?_ (fun hHeld => ?_)
          · (try dsimp only)
            go_keep
          clear hK K
          try simp only [Act.put, List.setIfInBounds_toArray, List.set_cons_zero, List.set_cons_succ]
          refine wpAnyH_done (by kernel_rfl) ?_ _
          clear a0 a1 a2 a3 a4 u0 u1 u2 x0 x1 x2 x3 s0 s1 s2 s3 s4 t0 t1 t2 t3 t4
          go_wp2
          go_roundw
          case rel => exact ⟨i + 1, R2, p2, c2, ls2, _, by omega, by go_num, Lib.hid (RSc.step HIN.out HX.out.1 HX.out.2 HG4.out HB4.out.1 HB4.out.2.1 HB4.out.2.2 hp2)⟩
          case measure => simp [intOf]; omega
        · skip
          try go_simp
          go_at_call 39
          refine (rMul_c x.r u Y.2 r _ (HBEL.out _ (bel_At wr)).2.1 (HBEL.out _ (bel_At wr)).2.2).mono ?_
          rintro ee w3 ⟨y, rfl, hy, hb⟩
          have hbW := (bel_At wr).trans hb
          have hk := kept_below hbW HIN.out.sz
          clear a0 a1 a2 a3 a4 u0 u1 u2 x0 x1 x2 x3 s0 s1 s2 s3 s4 t0 t1 t2 t3 t4
          obtain ⟨a0, a1, a2, a3, a4⟩ := (HALL.out _ hk).1.facts
          rw [HVA.out] at a1
          obtain ⟨u0, u1, u2, _, _, _⟩ := (HALL.out _ hk).2.1.facts
          obtain ⟨x0, x1, x2, x3⟩ := (HALL.out _ hk).2.2
          obtain ⟨s0, s1, s2, s3, s4⟩ := ((HBEL.out _ hbW).1).facts
          obtain ⟨t0, t1, t2, t3, t4⟩ := ((HBEL.out _ hbW).1).thaw
          have HY := Lib.hid hy
          have HG3 := Lib.hid (HIN.out.gr.below hbW)
          have HW3 := Lib.hid hbW
          have hz3 : wr.heap.size ≤ w3.heap.size := hbW.size
          clear hb hbW hk hy
          try go_wp2_with fail
          refine hK.out _ _ ?_ (fun hHeld => ?_)
          · (try dsimp only)
            go_keep
          clear hK K
          try simp only [Act.put, List.setIfInBounds_toArray, List.set_cons_zero, List.set_cons_succ]
          refine wpAnyH_ready (rs := [1]) (by kernel_rfl) (by simp) ?_
          refine AllReadyH.cons (o := { dst := some 22, op := Op.load 22 (Operand.tmp 21), type := 22, pos := "aff.go:77", after := #[{ on := 0, ground := Ground.data }], guard := none }) rfl (fun K hK => ?_) AllReadyH.nil
          try go_simp
          try go_wp2_with fail
          refine hK.out _ _ ?_ (fun hHeld => ?_)
          · (try dsimp only)
            go_keep
          clear hK K
          try simp only [Act.put, List.setIfInBounds_toArray, List.set_cons_zero, List.set_cons_succ]
          refine wpAnyH_ready (rs := [16]) (by kernel_rfl) (by simp) ?_
          refine AllReadyH.cons (o := { dst := some 37, op := Op.call { callee := Callee.value (Operand.func 36), args := #[Operand.tmp 22, Operand.tmp 28, Operand.tmp 36], argTypes := #[22, 3, 25] }, type := 22, pos := "aff.go:77", after := #[{ on := 1, ground := Ground.data }, { on := 7, ground := Ground.data }, { on := 15, ground := Ground.data }, { on := 15, ground := Ground.chain }], guard := none }) rfl (fun K hK => ?_) AllReadyH.nil
          try go_simp
          go_at_call 36
          refine (lay_c R p e wc.heap.size ls D x.v y (Y.2 * r) _ HG3.out ((HY.out.rw HSZ.out).more (by omega)) (by omega) (by omega)).mono ?_
          rintro ee w4 ⟨R2, c2, p2, ls2, rfl, hp2, hg2, hb, _, _⟩
          have hk := kept_lo (kept_below HW3.out HIN.out.sz) hb
          clear a0 a1 a2 a3 a4 u0 u1 u2 x0 x1 x2 x3 s0 s1 s2 s3 s4 t0 t1 t2 t3 t4
          obtain ⟨a0, a1, a2, a3, a4⟩ := (HALL.out _ hk).1.facts
          rw [HVA.out] at a1
          obtain ⟨u0, u1, u2, _, _, _⟩ := (HALL.out _ hk).2.1.facts
          obtain ⟨x0, x1, x2, x3⟩ := (HALL.out _ hk).2.2
          obtain ⟨s0, s1, s2, s3, s4⟩ := ((HBEL.out _ HW3.out).1.at hb HX0.out.lt).facts
          obtain ⟨t0, t1, t2, t3, t4⟩ := ((HBEL.out _ HW3.out).1.at hb HX0.out.lt).thaw
          have HG4 := Lib.hid hg2
          have HB4 := Lib.hid (And.intro hk (And.intro HW3.out hb))
          clear hb hk hg2
          try go_wp2_with fail
          refine hK.out _ _ ?_ (fun hHeld => ?_)
          · (try dsimp only)
            go_keep
          clear hK K
          try simp only [Act.put, List.setIfInBounds_toArray, List.set_cons_zero, List.set_cons_succ]
          refine wpAnyH_take (i := 17) (oi := { dst := some 38, op := Op.fieldAddr 27 (Operand.tmp 5) 1, type := 0, pos := "aff.go:77", after := #[{ on := 0, ground := Ground.phase }, { on := 1, ground := Ground.phase }, { on := 2, ground := Ground.phase }, { on := 3, ground := Ground.phase }, { on := 4, ground := Ground.phase }, { on := 5, ground := Ground.phase }, { on := 6, ground := Ground.phase }, { on := 7, ground := Ground.phase }, { on := 8, ground := Ground.phase }, { on := 9, ground := Ground.phase }, { on := 10, ground := Ground.phase }, { on := 11, ground := Ground.phase }, { on := 12, ground := Ground.phase }, { on := 13, ground := Ground.phase }, { on := 14, ground := Ground.phase }, { on := 15, ground := Ground.phase }, { on := 16, ground := Ground.phase }], guard := none }) (v := ?vq23x) rfl (by kernel_rfl) (by kernel_rfl) (by kernel_rfl) (fun _ _ _ h => h) (Or.inl ⟨by rfl, ?hyq23x⟩) (by assumption) ?restq23x
          case hyq23x =>
            intro w hSw
            (try dsimp only at hSw)
            go_simp
            all_goals (with_reducible rfl)
          try simp only [Act.put, List.setIfInBounds_toArray, List.set_cons_zero, List.set_cons_succ]
          refine wpAnyH_ready (rs := [18]) (by kernel_rfl) (by simp) ?_
          refine AllReadyH.cons (o := { dst := none, op := Op.store 22 (Operand.tmp 38) (Operand.tmp 37), type := 0, pos := "aff.go:77", after := #[{ on := 17, ground := Ground.data }, { on := 16, ground := Ground.data }, { on := 16, ground := Ground.chain }, { on := 0, ground := Ground.phase }, { on := 1, ground := Ground.phase }, { on := 2, ground := Ground.phase }, { on := 3, ground := Ground.phase }, { on := 4, ground := Ground.phase }, { on := 5, ground := Ground.phase }, { on := 6, ground := Ground.phase }, { on := 7, ground := Ground.phase }, { on := 8, ground := Ground.phase }, { on := 9, ground := Ground.phase }, { on := 10, ground := Ground.phase }, { on := 11, ground := Ground.phase }, { on := 12, ground := Ground.phase }, { on := 13, ground := Ground.phase }, { on := 14, ground := Ground.phase }, { on := 15, ground := Ground.phase }, { on := 16, ground := Ground.phase }], guard := none }) rfl (fun K hK => ?_) AllReadyH.nil
          try go_simp
          try go_wp2_with fail
          refine hK.out _ _ ?_ (fun hHeld => ?_)
          · (try dsimp only)
            go_keep
          clear hK K
          try simp only [Act.put, List.setIfInBounds_toArray, List.set_cons_zero, List.set_cons_succ]
          refine wpAnyH_done (by kernel_rfl) ?_ _
          clear a0 a1 a2 a3 a4 u0 u1 u2 x0 x1 x2 x3 s0 s1 s2 s3 s4 t0 t1 t2 t3 t4
          go_wp2
          go_roundw
          case rel => exact ⟨i + 1, R2, p2, c2, ls2, _, by omega, by go_num, Lib.hid (RSc.step HIN.out HX.out.1 HX.out.2 HG4.out HB4.out.1 HB4.out.2.1 HB4.out.2.2 hp2)⟩
          case measure => simp [intOf]; omega
      · have i1 : ¬ (i : Int) < (va.n : Int) := by omega
        have heq := HIN.out.eq
        rw [List.drop_eq_nil_of_le (by rw [← HRL.out.2, HRL.out.1]; omega), scaleL, List.append_nil] at heq
        have HQ := Lib.hid heq
        clear heq
        have kz := (HALL0.out _ HIN.out.sz).2.2
        have HN := Lib.hid (HX0.out.num _ HIN.out.sz.1 HIN.out.sz.2)
        obtain ⟨s0, s1, s2, s3, s4⟩ := HIN.out.cx.facts
        obtain ⟨q0, q1, q2, q3, q4⟩ := kz.facts
        obtain ⟨t0, t1, t2, t3, t4⟩ := kz.thaw
        have hne : ¬ X = w.heap.size + 1 + 1 := by omega
        have hne' : ¬ w.heap.size + 1 + 1 = X := by omega
        go_wp2
        refine ret5 (fn := Tryz.f16) Tryz.results16 rfl rfl kz ?_
        refine ⟨⟨va.s, R, p, e, zk⟩, rfl, rfl, by show p ≤ _; omega, ?_, HIN.out.below.trans (put5_below (by omega) _ _ _ _ _)⟩
        rw [HQ.out]
        exact (Ct.of HIN.out.gr.own.capLe (HIN.out.gr.own.tms.lower (show w.heap.size + 3 ≤ wc.heap.size by omega)) (RdN.lower (show w.heap.size + 3 ≤ wc.heap.size by omega) HIN.out.gr.rd.rdn) (HN.out.lower (by omega)) (by omega)).lower (by omega)
end Go.Proofs.YtffnjdfmaebmhaaGreatDoor

namespace Go.Proofs.YtffnjdfmaebmhaaGreatDoor
set_option maxRecDepth 20000
open Go.RowKit

/-- What a loop that lays terms keeps: T is what is laid and what is to be laid. -/
structure RG (w wx wr : World) (X : Nat) (s : Int) (z : Rv) (T rest : List (Int × Rat)) (N : Nat) (R : Option Addr) (p e : Nat) (ls : List Tv) (D : List (Int × Rat)) : Prop where
  cx : C5 wr X (.int .i64 s) (.slice R p e) (.bool z.s) (.slice z.A z.n z.c) (.slice z.B z.m z.d)
  gr : Gr wr wx.heap.size R e p ls D
  eq : T = D ++ rest
  sz : wx.heap.size ≤ wr.heap.size ∧ Kept wx.heap.size X wx wr
  below : Below w.heap.size w wr
  lt : w.heap.size ≤ X ∧ X < wx.heap.size
  le : p ≤ N
theorem RG.step {w wx wr w3 w4 : World} {X : Nat} {s : Int} {z : Rv} {T rest rest' D : List (Int × Rat)} {N N' p e p2 c2 : Nat} {R R2 : Option Addr} {ls ls2 : List Tv} {v : Int} {q : Rat} (h : RG w wx wr X s z T rest N R p e ls D) (hr : rest = lay1 v q ++ rest' ∧ N + 1 ≤ N')
    (hg : Gr w4 wx.heap.size R2 c2 p2 ls2 (D ++ lay1 v q)) (hk : wx.heap.size ≤ w4.heap.size ∧ Kept wx.heap.size X wx w4) (h3 : Below wr.heap.size wr w3) (h4 : Below wx.heap.size w3 w4) (hp : p2 ≤ p + 1) :
    RG w wx (w4.setCell ⟨X, 1, none⟩ (.slice R2 p2 c2)) X s z T rest' N' R2 p2 c2 ls2 (D ++ lay1 v q) := by
  have hle := h.le
  have hN := hr.2
  have hlt := h.lt
  have hsz := h.sz.1
  have hcx : C5 w4 X (.int .i64 s) (.slice R p e) (.bool z.s) (.slice z.A z.n z.c) (.slice z.B z.m z.d) := (h.cx.below h3).at h4 hlt.2
  have hb4 : Below w.heap.size w w4 := (h.below.trans (h3.mono h.below.size)).trans (h4.mono (by omega))
  refine ⟨hcx.set1 _, hg.set hlt.2 _, by rw [h.eq, hr.1, List.append_assoc], ⟨by simpa [World.setCell] using hk.1, fun g h1 h2 => ?_⟩, hb4.setCell hlt.1 _, hlt, by omega⟩
  refine Eq.trans ?_ (hk.2 g h1 h2)
  show (w4.heap.modify X _)[g]? = _
  rw [Array.getElem?_modify, if_neg (fun e => h2 e.symm)]
theorem bel_n (w : World) : ∀ n, Below w.heap.size w (w.drewN n) := fun n => below_drewN' w.heap.size w n
theorem drop_some {L : List (Int × Rat)} {i : Nat} {P : Int × Rat} (h : L[i]? = some P) : L.drop i = (P.1, P.2) :: L.drop (i + 1) := by
  obtain ⟨hl, e⟩ := List.getElem?_eq_some_iff.1 h
  rw [List.drop_eq_getElem_cons hl, e]
theorem rest_a {L : List (Int × Rat)} {i : Nat} {P : Int × Rat} {v : Int} (h : L[i]? = some P) (e : v = P.1) : addL (L.drop i) [] = lay1 v P.2 ++ addL (L.drop (i + 1)) [] := by
  rw [drop_some h, addL, e]
theorem rest_b {M : List (Int × Rat)} {j : Nat} {Q : Int × Rat} {v : Int} (h : M[j]? = some Q) (e : v = Q.1) : addL [] (M.drop j) = lay1 v Q.2 ++ addL [] (M.drop (j + 1)) := by
  rw [drop_some h, addL, e]
theorem rest_lt {L M : List (Int × Rat)} {i j : Nat} {P Q : Int × Rat} {v u : Int} (h : L[i]? = some P) (h' : M[j]? = some Q) (e : v = P.1) (e' : u = Q.1) (hlt : v < u) : addL (L.drop i) (M.drop j) = lay1 v P.2 ++ addL (L.drop (i + 1)) (M.drop j) := by
  rw [drop_some h, drop_some h', addL_lt (by omega), e]
theorem rest_gt {L M : List (Int × Rat)} {i j : Nat} {P Q : Int × Rat} {v u : Int} (h : L[i]? = some P) (h' : M[j]? = some Q) (e : v = P.1) (e' : u = Q.1) (hlt : u < v) : addL (L.drop i) (M.drop j) = lay1 u Q.2 ++ addL (L.drop i) (M.drop (j + 1)) := by
  rw [drop_some h, drop_some h', addL_gt (by omega), e']
theorem rest_eq {L M : List (Int × Rat)} {i j : Nat} {P Q : Int × Rat} {v u : Int} (h : L[i]? = some P) (h' : M[j]? = some Q) (e : v = P.1) (e' : u = Q.1) (h1 : ¬ v < u) (h2 : ¬ u < v) : addL (L.drop i) (M.drop j) = lay1 v (P.2 + Q.2) ++ addL (L.drop (i + 1)) (M.drop (j + 1)) := by
  rw [drop_some h, drop_some h', addL_eq (by omega) (by omega), e]
set_option maxHeartbeats 25600000 in
theorem rAddK_c (va vb : Cv) (L M : List (Int × Rat)) (k q : Rat) (w : World) (ha : Cw w va L k 900) (hb : Cw w vb M q 900) (hn : va.n ≤ 1000) (hm : vb.n ≤ 1000) :
    Calls Tryz.prog 14 #[.agg #[.int .i64 va.s, .slice va.A va.n va.c, .bool va.K.s, .slice va.K.A va.K.n va.K.c, .slice va.K.B va.K.m va.K.d], .agg #[.int .i64 vb.s, .slice vb.A vb.n vb.c, .bool vb.K.s, .slice vb.K.A vb.K.n vb.K.c, .slice vb.K.B vb.K.m vb.K.d]] w fun e w' => ∃ z : Cv, e = .returned (.agg #[.int .i64 z.s, .slice z.A z.n z.c, .bool z.K.s, .slice z.K.A z.K.n z.K.c, .slice z.K.B z.K.m z.K.d]) ∧ z.s = va.s ∧ z.n ≤ va.n + vb.n ∧ Ct w' w.heap.size z (addL L M) (k + q) ∧ Below w.heap.size w w' := by
  obtain ⟨ha1, ⟨la, ha2, ha3⟩, ha4⟩ := ha
  obtain ⟨hb1, ⟨lb, hb2, hb3⟩, hb4⟩ := hb
  obtain ⟨ka, kb, kz, HW, hsW⟩ := openK2z w va vb _ rfl
  have N0 : (0 : Int) ≤ (va.n : Int) := by omega
  have N1 : (va.n : Int) ≤ 1000 := by omega
  have M0 : (0 : Int) ≤ (vb.n : Int) := by omega
  have M1 : (vb.n : Int) ≤ 1000 := by omega
  go_enter Tryz.func14, Tryz.ntmps14
  go_wp2_with fail
  generalize ((w.alloc (.cells #[.int .i64 va.s, .slice va.A va.n va.c, .bool va.K.s, .slice va.K.A va.K.n va.K.c, .slice va.K.B va.K.m va.K.d] 27)).alloc (.cells #[.int .i64 vb.s, .slice vb.A vb.n vb.c, .bool vb.K.s, .slice vb.K.A vb.K.n vb.K.c, .slice vb.K.B vb.K.m vb.K.d] 27)).alloc (.cells #[.int .i64 0, .slice none 0 0, .bool false, .slice none 0 0, .slice none 0 0] 27) = W at *
  have HA1 : Hid (∀ w', Below W.heap.size W w' → Rw w' va.K k 1900 ∧ Rw w' vb.K q 1900 ∧ C5 w' w.heap.size (.int .i64 va.s) (.slice va.A va.n va.c) (.bool va.K.s) (.slice va.K.A va.K.n va.K.c) (.slice va.K.B va.K.m va.K.d) ∧ C5 w' (w.heap.size + 1) (.int .i64 vb.s) (.slice vb.A vb.n vb.c) (.bool vb.K.s) (.slice vb.K.A vb.K.n vb.K.c) (.slice vb.K.B vb.K.m vb.K.d)) := fun w' h =>
    ⟨((ha4.below HW).below h).more (by omega), ((hb4.below HW).below h).more (by omega), ka.below h, kb.below h⟩
  have HT0 := Lib.hid (And.intro ha2 ha3)
  have HT1 := Lib.hid (And.intro hb2 hb3)
  have HRL := Lib.hid (And.intro ha2.len ha3.len)
  have HRM := Lib.hid (And.intro hb2.len hb3.len)
  have HWW := Lib.hid (And.intro HW hsW)
  have HKZ := Lib.hid kz
  clear ha2 ha3 ha4 hb2 hb3 hb4 ka kb kz
  go_cut [5] from 8 to 15 (fun xv wx => ∃ (X : Nat) (z : Rv), xv = .pointer (some ⟨X, 0, none⟩) ∧ Hid (XAt W wx X va.s z (k + q)))
  case first =>
    obtain ⟨a0, a1, a2, a3, a4⟩ := (HA1.out _ (Below.refl _ _)).2.2.1.facts
    obtain ⟨b0, b1, b2, b3, b4⟩ := (HA1.out _ (Below.refl _ _)).2.2.2.facts
    have hsL : w.heap.size + 3 ≤ W.heap.size := by omega
    have m1 : ¬ w.heap.size = W.heap.size := by omega
    have m2 : ¬ W.heap.size = w.heap.size := by omega
    have m3 : ¬ w.heap.size + 1 = W.heap.size := by omega
    have m4 : ¬ W.heap.size = w.heap.size + 1 := by omega
    clear hsW
    refine wp_region_held_drew (S := fun w' => w'.cell? ⟨w.heap.size, 0, none⟩ = some (.int .i64 va.s) ∧ w'.cell? ⟨w.heap.size, 2, none⟩ = some (.bool va.K.s) ∧ w'.cell? ⟨w.heap.size, 3, none⟩ = some (.slice va.K.A va.K.n va.K.c) ∧ w'.cell? ⟨w.heap.size, 4, none⟩ = some (.slice va.K.B va.K.m va.K.d) ∧ w'.cell? ⟨w.heap.size + 1, 2, none⟩ = some (.bool vb.K.s) ∧ w'.cell? ⟨w.heap.size + 1, 3, none⟩ = some (.slice vb.K.A vb.K.n vb.K.c) ∧ w'.cell? ⟨w.heap.size + 1, 4, none⟩ = some (.slice vb.K.B vb.K.m vb.K.d)) (by kernel_rfl) ?_ (fun hHeld => ?_)
    · (try dsimp only)
      go_keep
    refine wpAnyH_take (i := 0) (oi := { dst := some 8, op := Op.fieldAddr 27 (Operand.tmp 2) 0, type := 0, pos := "aff.go:54", after := #[], guard := none }) (v := ?vq1x) rfl (by kernel_rfl) (by kernel_rfl) (by kernel_rfl) (fun _ _ _ h => h) (Or.inl ⟨by rfl, ?hyq1x⟩) (by assumption) ?restq1x
    case hyq1x =>
      intro w hSw
      (try dsimp only at hSw)
      go_simp
      all_goals (with_reducible rfl)
    try simp only [Act.put, List.setIfInBounds_toArray, List.set_cons_zero, List.set_cons_succ]
    refine wpAnyH_take (i := 1) (oi := { dst := some 9, op := Op.load 3 (Operand.tmp 8), type := 3, pos := "aff.go:54", after := #[{ on := 0, ground := Ground.data }], guard := none }) (v := ?vq2x) rfl (by kernel_rfl) (by kernel_rfl) (by kernel_rfl) (fun _ _ _ h => h) (Or.inl ⟨by rfl, ?hyq2x⟩) (by assumption) ?restq2x
    case hyq2x =>
      intro w hSw
      (try dsimp only at hSw)
      go_simp
      all_goals (with_reducible rfl)
    try simp only [Act.put, List.setIfInBounds_toArray, List.set_cons_zero, List.set_cons_succ]
    refine wpAnyH_take (i := 2) (oi := { dst := some 10, op := Op.fieldAddr 27 (Operand.tmp 2) 2, type := 0, pos := "aff.go:54", after := #[], guard := none }) (v := ?vq3x) rfl (by kernel_rfl) (by kernel_rfl) (by kernel_rfl) (fun _ _ _ h => h) (Or.inl ⟨by rfl, ?hyq3x⟩) (by assumption) ?restq3x
    case hyq3x =>
      intro w hSw
      (try dsimp only at hSw)
      go_simp
      all_goals (with_reducible rfl)
    try simp only [Act.put, List.setIfInBounds_toArray, List.set_cons_zero, List.set_cons_succ]
    refine wpAnyH_take (i := 3) (oi := { dst := some 11, op := Op.load 25 (Operand.tmp 10), type := 25, pos := "aff.go:54", after := #[{ on := 2, ground := Ground.data }], guard := none }) (v := ?vq4x) rfl (by kernel_rfl) (by kernel_rfl) (by kernel_rfl) (fun _ _ _ h => h) (Or.inl ⟨by rfl, ?hyq4x⟩) (by assumption) ?restq4x
    case hyq4x =>
      intro w hSw
      (try dsimp only at hSw)
      go_simp
      all_goals (with_reducible rfl)
    try simp only [Act.put, List.setIfInBounds_toArray, List.set_cons_zero, List.set_cons_succ]
    refine wpAnyH_take (i := 4) (oi := { dst := some 12, op := Op.fieldAddr 27 (Operand.tmp 3) 2, type := 0, pos := "aff.go:54", after := #[], guard := none }) (v := ?vq5x) rfl (by kernel_rfl) (by kernel_rfl) (by kernel_rfl) (fun _ _ _ h => h) (Or.inl ⟨by rfl, ?hyq5x⟩) (by assumption) ?restq5x
    case hyq5x =>
      intro w hSw
      (try dsimp only at hSw)
      go_simp
      all_goals (with_reducible rfl)
    try simp only [Act.put, List.setIfInBounds_toArray, List.set_cons_zero, List.set_cons_succ]
    refine wpAnyH_take (i := 5) (oi := { dst := some 13, op := Op.load 25 (Operand.tmp 12), type := 25, pos := "aff.go:54", after := #[{ on := 4, ground := Ground.data }], guard := none }) (v := ?vq6x) rfl (by kernel_rfl) (by kernel_rfl) (by kernel_rfl) (fun _ _ _ h => h) (Or.inl ⟨by rfl, ?hyq6x⟩) (by assumption) ?restq6x
    case hyq6x =>
      intro w hSw
      (try dsimp only at hSw)
      go_simp
      all_goals (with_reducible rfl)
    try simp only [Act.put, List.setIfInBounds_toArray, List.set_cons_zero, List.set_cons_succ]
    refine wpAnyH_ready (rs := [6, 8]) (by kernel_rfl) (by simp) ?_
    refine AllReadyH.cons (o := { dst := some 14, op := Op.call { callee := Callee.value (Operand.func 35), args := #[Operand.tmp 11, Operand.tmp 13], argTypes := #[25, 25] }, type := 25, pos := "aff.go:54", after := #[{ on := 3, ground := Ground.data }, { on := 5, ground := Ground.data }], guard := none }) rfl (fun K hK => ?_) (AllReadyH.cons (o := { dst := some 5, op := Op.alloc 27, type := 0, pos := "aff.go:54", after := #[], guard := none }) rfl (fun K hK => ?_) AllReadyH.nil)
    · skip
      try go_simp
      go_at_call 35
      refine (rAdd_c va.K vb.K k q _ (HA1.out _ ?_).1 (HA1.out _ ?_).2.1).mono ?_
      · first
        | (with_reducible exact bel_At W)
        | (with_reducible exact ((Below.refl _ _).alloc (Nat.le_refl _) _).drew)
      · first
        | (with_reducible exact bel_At W)
        | (with_reducible exact ((Below.refl _ _).alloc (Nat.le_refl _) _).drew)
      rintro ee w2 ⟨z, rfl, hz, hb⟩
      have hbW : Below W.heap.size W w2 := by
        first
        | (have hbq : Below W.drew.heap.size W.drew w2 := by with_reducible exact hb
           exact (bel_At W).trans hbq)
        | (have hbq : Below (W.alloc (.cells #[.int .i64 0, .slice none 0 0, .bool false, .slice none 0 0, .slice none 0 0] 27)).drew.heap.size (W.alloc (.cells #[.int .i64 0, .slice none 0 0, .bool false, .slice none 0 0, .slice none 0 0] 27)).drew w2 := by with_reducible exact hb
           exact (((Below.refl _ _).alloc (Nat.le_refl _) _).drew).trans (hbq.mono (by simp)))
      first
      | (have hbq : Below (W.alloc (.cells #[.int .i64 0, .slice none 0 0, .bool false, .slice none 0 0, .slice none 0 0] 27)).drew.heap.size (W.alloc (.cells #[.int .i64 0, .slice none 0 0, .bool false, .slice none 0 0, .slice none 0 0] 27)).drew w2 := by with_reducible exact hb
         have kl0 : C5 (W.alloc (.cells #[.int .i64 0, .slice none 0 0, .bool false, .slice none 0 0, .slice none 0 0] 27)).drew W.heap.size (.int .i64 0) (.slice none 0 0) (.bool false) (.slice none 0 0) (.slice none 0 0) := C5.new W (.int .i64 0) (.slice none 0 0) (.bool false) (.slice none 0 0) (.slice none 0 0)
         have KN := Lib.hid (And.intro (kl0.below hbq) (show W.heap.size < (W.alloc (.cells #[.int .i64 0, .slice none 0 0, .bool false, .slice none 0 0, .slice none 0 0] 27)).drew.heap.size by simp))
         clear kl0
         obtain ⟨q0, q1, q2, q3, q4⟩ := KN.out.1.facts
         obtain ⟨t0, t1, t2, t3, t4⟩ := KN.out.1.thaw
         clear hbq)
      | skip
      obtain ⟨a0, a1, a2, a3, a4⟩ := (HA1.out _ hbW).2.2.1.facts
      obtain ⟨b0, b1, b2, b3, b4⟩ := (HA1.out _ hbW).2.2.2.facts
      have HZ := Lib.hid hz
      have HW2 := Lib.hid hbW
      have hz2 := hbW.size
      have m5 : ¬ w.heap.size = w2.heap.size := by omega
      have m6 : ¬ w2.heap.size = w.heap.size := by omega
      have m7 : ¬ w.heap.size + 1 = w2.heap.size := by omega
      have m8 : ¬ w2.heap.size = w.heap.size + 1 := by omega
      clear hb hbW hz
      try go_wp2_with fail
      refine hK.out _ _ ?_ (fun hHeld => ?_)
      · (try dsimp only)
        go_keep
      clear hK K
      try simp only [Act.put, List.setIfInBounds_toArray, List.set_cons_zero, List.set_cons_succ]
      refine wpAnyH_take (i := 7) (oi := { dst := some 15, op := Op.build 27 #[(0, Operand.tmp 9), (2, Operand.tmp 14)], type := 27, pos := "aff.go:54", after := #[{ on := 1, ground := Ground.data }, { on := 6, ground := Ground.data }], guard := none }) (v := ?vq7x) rfl (by kernel_rfl) (by kernel_rfl) (by kernel_rfl) (fun _ _ _ h => h) (Or.inl ⟨by rfl, ?hyq7x⟩) (by assumption) ?restq7x
      case hyq7x =>
        intro w hSw
        (try dsimp only at hSw)
        go_simp
        all_goals (with_reducible rfl)
      try simp only [Act.put, List.setIfInBounds_toArray, List.set_cons_zero, List.set_cons_succ]
      refine wpAnyH_ready (rs := [8]) (by kernel_rfl) (by simp) ?_
      refine AllReadyH.cons (o := { dst := some 5, op := Op.alloc 27, type := 0, pos := "aff.go:54", after := #[], guard := none }) rfl (fun K hK => ?_) AllReadyH.nil
      try go_simp
      try go_wp2_with fail
      refine hK.out _ _ ?_ (fun hHeld => ?_)
      · (try dsimp only)
        go_keep
      clear hK K
      try simp only [Act.put, List.setIfInBounds_toArray, List.set_cons_zero, List.set_cons_succ]
      refine wpAnyH_ready (rs := [9]) (by kernel_rfl) (by simp) ?_
      refine AllReadyH.cons (o := { dst := none, op := Op.store 27 (Operand.tmp 5) (Operand.tmp 15), type := 0, pos := "aff.go:54", after := #[{ on := 8, ground := Ground.data }, { on := 7, ground := Ground.data }, { on := 6, ground := Ground.chain }, { on := 0, ground := Ground.phase }, { on := 1, ground := Ground.phase }, { on := 2, ground := Ground.phase }, { on := 3, ground := Ground.phase }, { on := 4, ground := Ground.phase }, { on := 5, ground := Ground.phase }, { on := 6, ground := Ground.phase }, { on := 7, ground := Ground.phase }, { on := 8, ground := Ground.phase }], guard := none }) rfl (fun K hK => ?_) AllReadyH.nil
      try go_simp
      try go_wp2_with fail
      refine hK.out _ _ ?_ (fun hHeld => ?_)
      · (try dsimp only)
        go_keep
      clear hK K
      try simp only [Act.put, List.setIfInBounds_toArray, List.set_cons_zero, List.set_cons_succ]
      refine wpAnyH_done (by kernel_rfl) ?_ _
      go_wp2_with fail
      go_meet
      first
      | exact ⟨_, z, rfl, Lib.hid (XAt.put KN.out.1 KN.out.2 HW2.out HZ.out)⟩
      | exact ⟨_, z, rfl, Lib.hid (XAt.new HW2.out HZ.out (show W.heap.size ≤ W.drew.heap.size from Nat.le_refl _))⟩
    · skip
      try go_simp
      try go_wp2_with fail
      refine hK.out _ _ ?_ (fun hHeld => ?_)
      · (try dsimp only)
        go_keep
      clear hK K
      try simp only [Act.put, List.setIfInBounds_toArray, List.set_cons_zero, List.set_cons_succ]
      refine wpAnyH_ready (rs := [6]) (by kernel_rfl) (by simp) ?_
      refine AllReadyH.cons (o := { dst := some 14, op := Op.call { callee := Callee.value (Operand.func 35), args := #[Operand.tmp 11, Operand.tmp 13], argTypes := #[25, 25] }, type := 25, pos := "aff.go:54", after := #[{ on := 3, ground := Ground.data }, { on := 5, ground := Ground.data }], guard := none }) rfl (fun K hK => ?_) AllReadyH.nil
      try go_simp
      go_at_call 35
      refine (rAdd_c va.K vb.K k q _ (HA1.out _ ?_).1 (HA1.out _ ?_).2.1).mono ?_
      · first
        | (with_reducible exact bel_At W)
        | (with_reducible exact ((Below.refl _ _).alloc (Nat.le_refl _) _).drew)
      · first
        | (with_reducible exact bel_At W)
        | (with_reducible exact ((Below.refl _ _).alloc (Nat.le_refl _) _).drew)
      rintro ee w2 ⟨z, rfl, hz, hb⟩
      have hbW : Below W.heap.size W w2 := by
        first
        | (have hbq : Below W.drew.heap.size W.drew w2 := by with_reducible exact hb
           exact (bel_At W).trans hbq)
        | (have hbq : Below (W.alloc (.cells #[.int .i64 0, .slice none 0 0, .bool false, .slice none 0 0, .slice none 0 0] 27)).drew.heap.size (W.alloc (.cells #[.int .i64 0, .slice none 0 0, .bool false, .slice none 0 0, .slice none 0 0] 27)).drew w2 := by with_reducible exact hb
           exact (((Below.refl _ _).alloc (Nat.le_refl _) _).drew).trans (hbq.mono (by simp)))
      first
      | (have hbq : Below (W.alloc (.cells #[.int .i64 0, .slice none 0 0, .bool false, .slice none 0 0, .slice none 0 0] 27)).drew.heap.size (W.alloc (.cells #[.int .i64 0, .slice none 0 0, .bool false, .slice none 0 0, .slice none 0 0] 27)).drew w2 := by with_reducible exact hb
         have kl0 : C5 (W.alloc (.cells #[.int .i64 0, .slice none 0 0, .bool false, .slice none 0 0, .slice none 0 0] 27)).drew W.heap.size (.int .i64 0) (.slice none 0 0) (.bool false) (.slice none 0 0) (.slice none 0 0) := C5.new W (.int .i64 0) (.slice none 0 0) (.bool false) (.slice none 0 0) (.slice none 0 0)
         have KN := Lib.hid (And.intro (kl0.below hbq) (show W.heap.size < (W.alloc (.cells #[.int .i64 0, .slice none 0 0, .bool false, .slice none 0 0, .slice none 0 0] 27)).drew.heap.size by simp))
         clear kl0
         obtain ⟨q0, q1, q2, q3, q4⟩ := KN.out.1.facts
         obtain ⟨t0, t1, t2, t3, t4⟩ := KN.out.1.thaw
         clear hbq)
      | skip
      obtain ⟨a0, a1, a2, a3, a4⟩ := (HA1.out _ hbW).2.2.1.facts
      obtain ⟨b0, b1, b2, b3, b4⟩ := (HA1.out _ hbW).2.2.2.facts
      have HZ := Lib.hid hz
      have HW2 := Lib.hid hbW
      have hz2 := hbW.size
      have m5 : ¬ w.heap.size = w2.heap.size := by omega
      have m6 : ¬ w2.heap.size = w.heap.size := by omega
      have m7 : ¬ w.heap.size + 1 = w2.heap.size := by omega
      have m8 : ¬ w2.heap.size = w.heap.size + 1 := by omega
      clear hb hbW hz
      try go_wp2_with fail
      refine hK.out _ _ ?_ (fun hHeld => ?_)
      · (try dsimp only)
        go_keep
      clear hK K
      try simp only [Act.put, List.setIfInBounds_toArray, List.set_cons_zero, List.set_cons_succ]
      refine wpAnyH_take (i := 7) (oi := { dst := some 15, op := Op.build 27 #[(0, Operand.tmp 9), (2, Operand.tmp 14)], type := 27, pos := "aff.go:54", after := #[{ on := 1, ground := Ground.data }, { on := 6, ground := Ground.data }], guard := none }) (v := ?vq8x) rfl (by kernel_rfl) (by kernel_rfl) (by kernel_rfl) (fun _ _ _ h => h) (Or.inl ⟨by rfl, ?hyq8x⟩) (by assumption) ?restq8x
      case hyq8x =>
        intro w hSw
        (try dsimp only at hSw)
        go_simp
        all_goals (with_reducible rfl)
      try simp only [Act.put, List.setIfInBounds_toArray, List.set_cons_zero, List.set_cons_succ]
      refine wpAnyH_ready (rs := [9]) (by kernel_rfl) (by simp) ?_
      refine AllReadyH.cons (o := { dst := none, op := Op.store 27 (Operand.tmp 5) (Operand.tmp 15), type := 0, pos := "aff.go:54", after := #[{ on := 8, ground := Ground.data }, { on := 7, ground := Ground.data }, { on := 6, ground := Ground.chain }, { on := 0, ground := Ground.phase }, { on := 1, ground := Ground.phase }, { on := 2, ground := Ground.phase }, { on := 3, ground := Ground.phase }, { on := 4, ground := Ground.phase }, { on := 5, ground := Ground.phase }, { on := 6, ground := Ground.phase }, { on := 7, ground := Ground.phase }, { on := 8, ground := Ground.phase }], guard := none }) rfl (fun K hK => ?_) AllReadyH.nil
      try go_simp
      try go_wp2_with fail
      refine hK.out _ _ ?_ (fun hHeld => ?_)
      · (try dsimp only)
        go_keep
      clear hK K
      try simp only [Act.put, List.setIfInBounds_toArray, List.set_cons_zero, List.set_cons_succ]
      refine wpAnyH_done (by kernel_rfl) ?_ _
      go_wp2_with fail
      go_meet
      first
      | exact ⟨_, z, rfl, Lib.hid (XAt.put KN.out.1 KN.out.2 HW2.out HZ.out)⟩
      | exact ⟨_, z, rfl, Lib.hid (XAt.new HW2.out HZ.out (show W.heap.size ≤ W.drew.heap.size from Nat.le_refl _))⟩
  case rest =>
    obtain ⟨X, zk, rfl, HX0⟩ := hcut
    have hXl := HX0.out.lo
    have hXt := HX0.out.lt
    have hsW' := HX0.out.below.size
    clear hsW
    have hsW2 : w.heap.size + 3 = W.heap.size := by have := HWW.out.2; omega
    have HALL0 : Hid (∀ w', (wc.heap.size ≤ w'.heap.size ∧ Kept wc.heap.size X wc w') → C5 w' w.heap.size (.int .i64 va.s) (.slice va.A va.n va.c) (.bool va.K.s) (.slice va.K.A va.K.n va.K.c) (.slice va.K.B va.K.m va.K.d) ∧ C5 w' (w.heap.size + 1) (.int .i64 vb.s) (.slice vb.A vb.n vb.c) (.bool vb.K.s) (.slice vb.K.A vb.K.n vb.K.c) (.slice vb.K.B vb.K.m vb.K.d) ∧ C5 w' (w.heap.size + 1 + 1) (.int .i64 0) (.slice none 0 0) (.bool false) (.slice none 0 0) (.slice none 0 0)) := fun w' h => by
      have h0 := HA1.out _ HX0.out.below
      have hz := HKZ.out.below HX0.out.below
      exact ⟨(h.2 _ (by omega) (by omega)).trans h0.2.2.1, (h.2 _ (by omega) (by omega)).trans h0.2.2.2, (h.2 _ (by omega) (by omega)).trans hz⟩
    have HSC : Hid (RG w wc wc X va.s zk (addL L M) (addL (L.drop 0) (M.drop 0)) (0 + 0) none 0 0 [] []) := ⟨HX0.out.cell, Gr.nil_ _ _, rfl, ⟨Nat.le_refl _, fun g _ _ => rfl⟩, HWW.out.1.trans (HX0.out.below.mono (by omega)), ⟨by omega, hXt⟩, Nat.le_refl _⟩
    have n1 : ¬ w.heap.size = X := by omega
    have n2 : ¬ X = w.heap.size := by omega
    have n3 : ¬ w.heap.size + 1 = X := by omega
    have n4 : ¬ X = w.heap.size + 1 := by omega
    go_wp2
    go_loopw [6, 7] (fun iv jv wr => ∃ (i j : Nat) (R : Option Addr) (p e : Nat) (ls : List Tv) (D : List (Int × Rat)), i ≤ va.n ∧ j ≤ vb.n ∧ iv = .int .i64 i ∧ jv = .int .i64 j ∧ Hid (RG w wc wr X va.s zk (addL L M) (addL (L.drop i) (M.drop j)) (i + j) R p e ls D)) (fun iv jv _ => va.n - (intOf iv).toNat + (vb.n - (intOf jv).toNat))
    case atStart => exact ⟨0, 0, none, 0, 0, [], [], by omega, by omega, rfl, rfl, HSC⟩
    case round =>
      clear HSC
      obtain ⟨i, j, R, p, e, ls, D, hi, hj, rfl, rfl, HIN⟩ := hrel
      have hle := HIN.out.le
      have hsz := HIN.out.sz.1
      have HBEL : Hid (∀ w', Below wr.heap.size wr w' → C5 w' X (.int .i64 va.s) (.slice R p e) (.bool zk.s) (.slice zk.A zk.n zk.c) (.slice zk.B zk.m zk.d)) := fun w' h => HIN.out.cx.below h
      obtain ⟨a0, a1, a2, a3, a4⟩ := (HALL0.out _ HIN.out.sz).1.facts
      obtain ⟨b0, b1, b2, b3, b4⟩ := (HALL0.out _ HIN.out.sz).2.1.facts
      obtain ⟨s0, s1, s2, s3, s4⟩ := HIN.out.cx.facts
      obtain ⟨t0, t1, t2, t3, t4⟩ := HIN.out.cx.thaw
      have i0 : (0 : Int) ≤ (i : Int) := by omega
      have j0 : (0 : Int) ≤ (j : Int) := by omega
      by_cases hia : i < va.n
      · have i1 : (i : Int) < (va.n : Int) := by omega
        have i4 : ((i : Int) == (va.n : Int)) = false := by simp only [beq_eq_false_iff_ne, ne_eq]; omega
        have i2 : ¬ (i : Int) = (va.n : Int) := by omega
        obtain ⟨ga, oa, hvA, _, hga, hca⟩ := HT0.out.1.mem (by omega)
        obtain ⟨x, P, hx, hP, hxv, hxr⟩ := HT0.out.2.get i (by rw [HRL.out.1]; omega)
        have HVA := Lib.hid hvA
        have HP := Lib.hid (And.intro hP hxv)
        have HXC0 := Lib.hid (hca i x hx)
        have HXR : Hid (∀ w', Below wr.heap.size wr w' → Rw w' x.r P.2 1900) := fun w' h => (hxr.below (HIN.out.below.trans (h.mono HIN.out.below.size))).more (by omega)
        have HSX := Lib.hid (hxr.sz (show 0 < 900 by omega))
        have HXC : Hid (∀ w', (wc.heap.size ≤ w'.heap.size ∧ Kept wc.heap.size X wc w') → At4 w' ga (oa + i * 4) x) := fun w' h => HXC0.out.keep ((h.2 ga (by omega) (by omega)).trans ((HX0.out.below.block ga (by omega)).trans (HWW.out.1.block ga hga)))
        rw [hvA] at a1
        have n5 : ¬ ga = X := by omega
        have n6 : ¬ X = ga := by omega
        clear hx hP hxv hxr hca hvA
        obtain ⟨x0, x1, x2, x3⟩ := HXC.out _ HIN.out.sz
        by_cases hjb : j < vb.n
        · have j1 : (j : Int) < (vb.n : Int) := by omega
          have j2 : ¬ (j : Int) = (vb.n : Int) := by omega
          have j4 : ((j : Int) == (vb.n : Int)) = false := by simp only [beq_eq_false_iff_ne, ne_eq]; omega
          obtain ⟨gb, ob, hvB, _, hgb, hcb⟩ := HT1.out.1.mem (by omega)
          obtain ⟨y, Q, hy, hQ, hyv, hyr⟩ := HT1.out.2.get j (by rw [HRM.out.1]; omega)
          have HVB := Lib.hid hvB
          have HQ := Lib.hid (And.intro hQ hyv)
          have HYC0 := Lib.hid (hcb j y hy)
          have HYR : Hid (∀ w', Below wr.heap.size wr w' → Rw w' y.r Q.2 1900) := fun w' h => (hyr.below (HIN.out.below.trans (h.mono HIN.out.below.size))).more (by omega)
          have HSY := Lib.hid (hyr.sz (show 0 < 900 by omega))
          have HYC : Hid (∀ w', (wc.heap.size ≤ w'.heap.size ∧ Kept wc.heap.size X wc w') → At4 w' gb (ob + j * 4) y) := fun w' h => HYC0.out.keep ((h.2 gb (by omega) (by omega)).trans ((HX0.out.below.block gb (by omega)).trans (HWW.out.1.block gb hgb)))
          rw [hvB] at b1
          have n7 : ¬ gb = X := by omega
          have n8 : ¬ X = gb := by omega
          clear hy hQ hyv hyr hcb hvB
          obtain ⟨y0, y1, y2, y3⟩ := HYC.out _ HIN.out.sz
          by_cases h1 : x.v < y.v
          · have HRA := And.intro (rest_lt HP.out.1 HQ.out.1 HP.out.2 HQ.out.2 h1) (show i + j + 1 ≤ i + 1 + j by omega)
            have HRA := Lib.hid HRA
            go_wp2_with fail
            refine wp_region_held_drew (S := fun w' => w'.cell? ⟨w.heap.size, 1, none⟩ = some (.slice (some ⟨ga, oa, none⟩) va.n va.c) ∧ w'.cell? ⟨w.heap.size + 1, 1, none⟩ = some (.slice (some ⟨gb, ob, none⟩) vb.n vb.c) ∧ w'.cell? ⟨ga, oa + i * 4, none⟩ = some (.int .i64 x.v) ∧ w'.cell? ⟨ga, oa + i * 4 + 1, none⟩ = some (.bool x.r.s) ∧ w'.cell? ⟨ga, oa + i * 4 + 2, none⟩ = some (.slice x.r.A x.r.n x.r.c) ∧ w'.cell? ⟨ga, oa + i * 4 + 3, none⟩ = some (.slice x.r.B x.r.m x.r.d) ∧ w'.cell? ⟨gb, ob + j * 4, none⟩ = some (.int .i64 y.v) ∧ w'.cell? ⟨gb, ob + j * 4 + 1, none⟩ = some (.bool y.r.s) ∧ w'.cell? ⟨gb, ob + j * 4 + 2, none⟩ = some (.slice y.r.A y.r.n y.r.c) ∧ w'.cell? ⟨gb, ob + j * 4 + 3, none⟩ = some (.slice y.r.B y.r.m y.r.d)) (by kernel_rfl) ?_ (fun hHeld => ?_)
            · (try dsimp only)
              go_keep
            refine wpAnyH_take (i := 0) (oi := { dst := some 56, op := Op.move (Operand.tmp 7), type := 3, pos := "aff.go:58", after := #[], guard := none }) (v := ?vq23x) rfl (by kernel_rfl) (by kernel_rfl) (by kernel_rfl) (fun _ _ _ h => h) (Or.inl ⟨by rfl, ?hyq23x⟩) (by assumption) ?restq23x
            case hyq23x =>
              intro w hSw
              (try dsimp only at hSw)
              go_simp
              all_goals (with_reducible rfl)
            try simp only [Act.put, List.setIfInBounds_toArray, List.set_cons_zero, List.set_cons_succ]
            refine wpAnyH_take (i := 1) (oi := { dst := some 57, op := Op.fieldAddr 27 (Operand.tmp 3) 1, type := 0, pos := "aff.go:58", after := #[], guard := none }) (v := ?vq24x) rfl (by kernel_rfl) (by kernel_rfl) (by kernel_rfl) (fun _ _ _ h => h) (Or.inl ⟨by rfl, ?hyq24x⟩) (by assumption) ?restq24x
            case hyq24x =>
              intro w hSw
              (try dsimp only at hSw)
              go_simp
              all_goals (with_reducible rfl)
            try simp only [Act.put, List.setIfInBounds_toArray, List.set_cons_zero, List.set_cons_succ]
            refine wpAnyH_take (i := 2) (oi := { dst := some 58, op := Op.load 22 (Operand.tmp 57), type := 22, pos := "aff.go:58", after := #[{ on := 1, ground := Ground.data }], guard := none }) (v := ?vq25x) rfl (by kernel_rfl) (by kernel_rfl) (by kernel_rfl) (fun _ _ _ h => h) (Or.inl ⟨by rfl, ?hyq25x⟩) (by assumption) ?restq25x
            case hyq25x =>
              intro w hSw
              (try dsimp only at hSw)
              go_simp
              all_goals (with_reducible rfl)
            try simp only [Act.put, List.setIfInBounds_toArray, List.set_cons_zero, List.set_cons_succ]
            refine wpAnyH_take (i := 3) (oi := { dst := some 59, op := Op.call { callee := Callee.builtin Builtin.len, args := #[Operand.tmp 58], argTypes := #[22] }, type := 3, pos := "aff.go:58", after := #[{ on := 2, ground := Ground.data }], guard := none }) (v := ?vq26x) rfl (by kernel_rfl) (by kernel_rfl) (by kernel_rfl) (fun _ _ _ h => h) (Or.inl ⟨by rfl, ?hyq26x⟩) (by assumption) ?restq26x
            case hyq26x =>
              intro w hSw
              (try dsimp only at hSw)
              go_simp
              all_goals (with_reducible rfl)
            try simp only [Act.put, List.setIfInBounds_toArray, List.set_cons_zero, List.set_cons_succ]
            refine wpAnyH_take (i := 4) (oi := { dst := some 60, op := Op.binOp BinOp.eql 3 (Operand.tmp 56) (Operand.tmp 59) 3, type := 4, pos := "aff.go:58", after := #[{ on := 0, ground := Ground.data }, { on := 3, ground := Ground.data }], guard := none }) (v := ?vq27x) rfl (by kernel_rfl) (by kernel_rfl) (by kernel_rfl) (fun _ _ _ h => h) (Or.inl ⟨by rfl, ?hyq27x⟩) (by assumption) ?restq27x
            case hyq27x =>
              intro w hSw
              (try dsimp only at hSw)
              go_simp
              all_goals (with_reducible rfl)
            try simp only [Act.put, List.setIfInBounds_toArray, List.set_cons_zero, List.set_cons_succ]
            refine wpAnyH_take (i := 5) (oi := { dst := some 61, op := Op.move (Operand.tmp 60), type := 4, pos := "aff.go:58", after := #[{ on := 4, ground := Ground.data }], guard := none }) (v := ?vq28x) rfl (by kernel_rfl) (by kernel_rfl) (by kernel_rfl) (fun _ _ _ h => h) (Or.inl ⟨by rfl, ?hyq28x⟩) (by assumption) ?restq28x
            case hyq28x =>
              intro w hSw
              (try dsimp only at hSw)
              go_simp
              all_goals (with_reducible rfl)
            try simp only [Act.put, List.setIfInBounds_toArray, List.set_cons_zero, List.set_cons_succ]
            refine wpAnyH_take (i := 6) (oi := { dst := some 62, op := Op.move (Operand.tmp 6), type := 3, pos := "aff.go:58", after := #[{ on := 5, ground := Ground.guard }], guard := some (5, false) }) (v := ?vq29x) rfl (by kernel_rfl) (by kernel_rfl) (by kernel_rfl) (fun _ _ _ h => h) (Or.inl ⟨by rfl, ?hyq29x⟩) (by assumption) ?restq29x
            case hyq29x =>
              intro w hSw
              (try dsimp only at hSw)
              go_simp
              all_goals (with_reducible rfl)
            try simp only [Act.put, List.setIfInBounds_toArray, List.set_cons_zero, List.set_cons_succ]
            refine wpAnyH_take (i := 7) (oi := { dst := some 63, op := Op.fieldAddr 27 (Operand.tmp 2) 1, type := 0, pos := "aff.go:58", after := #[{ on := 5, ground := Ground.guard }], guard := some (5, false) }) (v := ?vq30x) rfl (by kernel_rfl) (by kernel_rfl) (by kernel_rfl) (fun _ _ _ h => h) (Or.inl ⟨by rfl, ?hyq30x⟩) (by assumption) ?restq30x
            case hyq30x =>
              intro w hSw
              (try dsimp only at hSw)
              go_simp
              all_goals (with_reducible rfl)
            try simp only [Act.put, List.setIfInBounds_toArray, List.set_cons_zero, List.set_cons_succ]
            refine wpAnyH_take (i := 8) (oi := { dst := some 64, op := Op.load 22 (Operand.tmp 63), type := 22, pos := "aff.go:58", after := #[{ on := 7, ground := Ground.data }, { on := 5, ground := Ground.guard }], guard := some (5, false) }) (v := ?vq31x) rfl (by kernel_rfl) (by kernel_rfl) (by kernel_rfl) (fun _ _ _ h => h) (Or.inl ⟨by rfl, ?hyq31x⟩) (by assumption) ?restq31x
            case hyq31x =>
              intro w hSw
              (try dsimp only at hSw)
              go_simp
              all_goals (with_reducible rfl)
            try simp only [Act.put, List.setIfInBounds_toArray, List.set_cons_zero, List.set_cons_succ]
            refine wpAnyH_take (i := 9) (oi := { dst := some 65, op := Op.call { callee := Callee.builtin Builtin.len, args := #[Operand.tmp 64], argTypes := #[22] }, type := 3, pos := "aff.go:58", after := #[{ on := 8, ground := Ground.data }, { on := 5, ground := Ground.guard }], guard := some (5, false) }) (v := ?vq32x) rfl (by kernel_rfl) (by kernel_rfl) (by kernel_rfl) (fun _ _ _ h => h) (Or.inl ⟨by rfl, ?hyq32x⟩) (by assumption) ?restq32x
            case hyq32x =>
              intro w hSw
              (try dsimp only at hSw)
              go_simp
              all_goals (with_reducible rfl)
            try simp only [Act.put, List.setIfInBounds_toArray, List.set_cons_zero, List.set_cons_succ]
            refine wpAnyH_take (i := 10) (oi := { dst := some 66, op := Op.binOp BinOp.lss 3 (Operand.tmp 62) (Operand.tmp 65) 3, type := 4, pos := "aff.go:58", after := #[{ on := 6, ground := Ground.data }, { on := 9, ground := Ground.data }, { on := 5, ground := Ground.guard }], guard := some (5, false) }) (v := ?vq33x) rfl (by kernel_rfl) (by kernel_rfl) (by kernel_rfl) (fun _ _ _ h => h) (Or.inl ⟨by rfl, ?hyq33x⟩) (by assumption) ?restq33x
            case hyq33x =>
              intro w hSw
              (try dsimp only at hSw)
              go_simp
              all_goals (with_reducible rfl)
            try simp only [Act.put, List.setIfInBounds_toArray, List.set_cons_zero, List.set_cons_succ]
            refine wpAnyH_take (i := 11) (oi := { dst := some 67, op := Op.move (Operand.tmp 66), type := 4, pos := "aff.go:58", after := #[{ on := 10, ground := Ground.data }, { on := 5, ground := Ground.chain }, { on := 5, ground := Ground.guard }], guard := some (5, false) }) (v := ?vq34x) rfl (by kernel_rfl) (by kernel_rfl) (by kernel_rfl) (fun _ _ _ h => h) (Or.inl ⟨by rfl, ?hyq34x⟩) (by assumption) ?restq34x
            case hyq34x =>
              intro w hSw
              (try dsimp only at hSw)
              go_simp
              all_goals (with_reducible rfl)
            try simp only [Act.put, List.setIfInBounds_toArray, List.set_cons_zero, List.set_cons_succ]
            refine wpAnyH_take (i := 12) (oi := { dst := some 68, op := Op.fieldAddr 27 (Operand.tmp 2) 1, type := 0, pos := "aff.go:58", after := #[{ on := 11, ground := Ground.guard }], guard := some (11, true) }) (v := ?vq35x) rfl (by kernel_rfl) (by kernel_rfl) (by kernel_rfl) (fun _ _ _ h => h) (Or.inl ⟨by rfl, ?hyq35x⟩) (by assumption) ?restq35x
            case hyq35x =>
              intro w hSw
              (try dsimp only at hSw)
              go_simp
              all_goals (with_reducible rfl)
            try simp only [Act.put, List.setIfInBounds_toArray, List.set_cons_zero, List.set_cons_succ]
            refine wpAnyH_take (i := 13) (oi := { dst := some 69, op := Op.load 22 (Operand.tmp 68), type := 22, pos := "aff.go:58", after := #[{ on := 12, ground := Ground.data }, { on := 11, ground := Ground.guard }], guard := some (11, true) }) (v := ?vq36x) rfl (by kernel_rfl) (by kernel_rfl) (by kernel_rfl) (fun _ _ _ h => h) (Or.inl ⟨by rfl, ?hyq36x⟩) (by assumption) ?restq36x
            case hyq36x =>
              intro w hSw
              (try dsimp only at hSw)
              go_simp
              all_goals (with_reducible rfl)
            try simp only [Act.put, List.setIfInBounds_toArray, List.set_cons_zero, List.set_cons_succ]
            refine wpAnyH_take (i := 14) (oi := { dst := some 70, op := Op.move (Operand.tmp 6), type := 3, pos := "aff.go:58", after := #[{ on := 11, ground := Ground.guard }], guard := some (11, true) }) (v := ?vq37x) rfl (by kernel_rfl) (by kernel_rfl) (by kernel_rfl) (fun _ _ _ h => h) (Or.inl ⟨by rfl, ?hyq37x⟩) (by assumption) ?restq37x
            case hyq37x =>
              intro w hSw
              (try dsimp only at hSw)
              go_simp
              all_goals (with_reducible rfl)
            try simp only [Act.put, List.setIfInBounds_toArray, List.set_cons_zero, List.set_cons_succ]
            refine wpAnyH_take (i := 15) (oi := { dst := some 71, op := Op.indexAddr 22 (Operand.tmp 69) (Operand.tmp 70), type := 0, pos := "aff.go:58", after := #[{ on := 13, ground := Ground.data }, { on := 14, ground := Ground.data }, { on := 11, ground := Ground.guard }], guard := some (11, true) }) (v := ?vq38x) rfl (by kernel_rfl) (by kernel_rfl) (by kernel_rfl) (fun _ _ _ h => h) (Or.inl ⟨by rfl, ?hyq38x⟩) (by assumption) ?restq38x
            case hyq38x =>
              intro w hSw
              (try dsimp only at hSw)
              go_simp
              all_goals (with_reducible rfl)
            try simp only [Act.put, List.setIfInBounds_toArray, List.set_cons_zero, List.set_cons_succ]
            refine wpAnyH_take (i := 16) (oi := { dst := some 72, op := Op.fieldAddr 61 (Operand.tmp 71) 0, type := 0, pos := "aff.go:58", after := #[{ on := 15, ground := Ground.data }, { on := 11, ground := Ground.guard }], guard := some (11, true) }) (v := ?vq39x) rfl (by kernel_rfl) (by kernel_rfl) (by kernel_rfl) (fun _ _ _ h => h) (Or.inl ⟨by rfl, ?hyq39x⟩) (by assumption) ?restq39x
            case hyq39x =>
              intro w hSw
              (try dsimp only at hSw)
              go_simp
              all_goals (with_reducible rfl)
            try simp only [Act.put, List.setIfInBounds_toArray, List.set_cons_zero, List.set_cons_succ]
            refine wpAnyH_take (i := 17) (oi := { dst := some 73, op := Op.load 3 (Operand.tmp 72), type := 3, pos := "aff.go:58", after := #[{ on := 16, ground := Ground.data }, { on := 11, ground := Ground.guard }], guard := some (11, true) }) (v := ?vq40x) rfl (by kernel_rfl) (by kernel_rfl) (by kernel_rfl) (fun _ _ _ h => h) (Or.inl ⟨by rfl, ?hyq40x⟩) (by assumption) ?restq40x
            case hyq40x =>
              intro w hSw
              (try dsimp only at hSw)
              go_simp
              all_goals (with_reducible rfl)
            try simp only [Act.put, List.setIfInBounds_toArray, List.set_cons_zero, List.set_cons_succ]
            refine wpAnyH_take (i := 18) (oi := { dst := some 74, op := Op.fieldAddr 27 (Operand.tmp 3) 1, type := 0, pos := "aff.go:58", after := #[{ on := 11, ground := Ground.guard }], guard := some (11, true) }) (v := ?vq41x) rfl (by kernel_rfl) (by kernel_rfl) (by kernel_rfl) (fun _ _ _ h => h) (Or.inl ⟨by rfl, ?hyq41x⟩) (by assumption) ?restq41x
            case hyq41x =>
              intro w hSw
              (try dsimp only at hSw)
              go_simp
              all_goals (with_reducible rfl)
            try simp only [Act.put, List.setIfInBounds_toArray, List.set_cons_zero, List.set_cons_succ]
            refine wpAnyH_take (i := 19) (oi := { dst := some 75, op := Op.load 22 (Operand.tmp 74), type := 22, pos := "aff.go:58", after := #[{ on := 18, ground := Ground.data }, { on := 11, ground := Ground.guard }], guard := some (11, true) }) (v := ?vq42x) rfl (by kernel_rfl) (by kernel_rfl) (by kernel_rfl) (fun _ _ _ h => h) (Or.inl ⟨by rfl, ?hyq42x⟩) (by assumption) ?restq42x
            case hyq42x =>
              intro w hSw
              (try dsimp only at hSw)
              go_simp
              all_goals (with_reducible rfl)
            try simp only [Act.put, List.setIfInBounds_toArray, List.set_cons_zero, List.set_cons_succ]
            refine wpAnyH_take (i := 20) (oi := { dst := some 76, op := Op.move (Operand.tmp 7), type := 3, pos := "aff.go:58", after := #[{ on := 11, ground := Ground.guard }], guard := some (11, true) }) (v := ?vq43x) rfl (by kernel_rfl) (by kernel_rfl) (by kernel_rfl) (fun _ _ _ h => h) (Or.inl ⟨by rfl, ?hyq43x⟩) (by assumption) ?restq43x
            case hyq43x =>
              intro w hSw
              (try dsimp only at hSw)
              go_simp
              all_goals (with_reducible rfl)
            try simp only [Act.put, List.setIfInBounds_toArray, List.set_cons_zero, List.set_cons_succ]
            refine wpAnyH_take (i := 21) (oi := { dst := some 77, op := Op.indexAddr 22 (Operand.tmp 75) (Operand.tmp 76), type := 0, pos := "aff.go:58", after := #[{ on := 19, ground := Ground.data }, { on := 20, ground := Ground.data }, { on := 11, ground := Ground.guard }], guard := some (11, true) }) (v := ?vq44x) rfl (by kernel_rfl) (by kernel_rfl) (by kernel_rfl) (fun _ _ _ h => h) (Or.inl ⟨by rfl, ?hyq44x⟩) (by assumption) ?restq44x
            case hyq44x =>
              intro w hSw
              (try dsimp only at hSw)
              go_simp
              all_goals (with_reducible rfl)
            try simp only [Act.put, List.setIfInBounds_toArray, List.set_cons_zero, List.set_cons_succ]
            refine wpAnyH_take (i := 22) (oi := { dst := some 78, op := Op.fieldAddr 61 (Operand.tmp 77) 0, type := 0, pos := "aff.go:58", after := #[{ on := 21, ground := Ground.data }, { on := 11, ground := Ground.guard }], guard := some (11, true) }) (v := ?vq45x) rfl (by kernel_rfl) (by kernel_rfl) (by kernel_rfl) (fun _ _ _ h => h) (Or.inl ⟨by rfl, ?hyq45x⟩) (by assumption) ?restq45x
            case hyq45x =>
              intro w hSw
              (try dsimp only at hSw)
              go_simp
              all_goals (with_reducible rfl)
            try simp only [Act.put, List.setIfInBounds_toArray, List.set_cons_zero, List.set_cons_succ]
            refine wpAnyH_take (i := 23) (oi := { dst := some 79, op := Op.load 3 (Operand.tmp 78), type := 3, pos := "aff.go:58", after := #[{ on := 22, ground := Ground.data }, { on := 11, ground := Ground.guard }], guard := some (11, true) }) (v := ?vq46x) rfl (by kernel_rfl) (by kernel_rfl) (by kernel_rfl) (fun _ _ _ h => h) (Or.inl ⟨by rfl, ?hyq46x⟩) (by assumption) ?restq46x
            case hyq46x =>
              intro w hSw
              (try dsimp only at hSw)
              go_simp
              all_goals (with_reducible rfl)
            try simp only [Act.put, List.setIfInBounds_toArray, List.set_cons_zero, List.set_cons_succ]
            refine wpAnyH_take (i := 24) (oi := { dst := some 80, op := Op.binOp BinOp.lss 3 (Operand.tmp 73) (Operand.tmp 79) 3, type := 4, pos := "aff.go:58", after := #[{ on := 17, ground := Ground.data }, { on := 23, ground := Ground.data }, { on := 11, ground := Ground.guard }], guard := some (11, true) }) (v := ?vq47x) rfl (by kernel_rfl) (by kernel_rfl) (by kernel_rfl) (fun _ _ _ h => h) (Or.inl ⟨by rfl, ?hyq47x⟩) (by assumption) ?restq47x
            case hyq47x =>
              intro w hSw
              (try dsimp only at hSw)
              go_simp
              all_goals (with_reducible rfl)
            try simp only [Act.put, List.setIfInBounds_toArray, List.set_cons_zero, List.set_cons_succ]
            refine wpAnyH_take (i := 25) (oi := { dst := some 81, op := Op.pick (Operand.tmp 67) (Operand.tmp 80) (Operand.const (Value.bool false)), type := 4, pos := "aff.go:58", after := #[{ on := 11, ground := Ground.data }, { on := 24, ground := Ground.data }, { on := 5, ground := Ground.guard }], guard := some (5, false) }) (v := ?vq48x) rfl (by kernel_rfl) (by kernel_rfl) (by kernel_rfl) (fun _ _ _ h => h) (Or.inl ⟨by rfl, ?hyq48x⟩) (by assumption) ?restq48x
            case hyq48x =>
              intro w hSw
              (try dsimp only at hSw)
              go_simp
              all_goals (with_reducible rfl)
            try simp only [Act.put, List.setIfInBounds_toArray, List.set_cons_zero, List.set_cons_succ]
            refine wpAnyH_take (i := 26) (oi := { dst := some 82, op := Op.pick (Operand.tmp 61) (Operand.const (Value.bool true)) (Operand.tmp 81), type := 4, pos := "aff.go:58", after := #[{ on := 5, ground := Ground.data }, { on := 25, ground := Ground.data }], guard := none }) (v := ?vq49x) rfl (by kernel_rfl) (by kernel_rfl) (by kernel_rfl) (fun _ _ _ h => h) (Or.inl ⟨by rfl, ?hyq49x⟩) (by assumption) ?restq49x
            case hyq49x =>
              intro w hSw
              (try dsimp only at hSw)
              go_simp
              all_goals (with_reducible rfl)
            try simp only [Act.put, List.setIfInBounds_toArray, List.set_cons_zero, List.set_cons_succ]
            refine wpAnyH_take (i := 27) (oi := { dst := some 55, op := Op.assign (Operand.tmp 82), type := 4, pos := "aff.go:58", after := #[{ on := 26, ground := Ground.data }, { on := 11, ground := Ground.chain }], guard := none }) (v := ?vq50x) rfl (by kernel_rfl) (by kernel_rfl) (by kernel_rfl) (fun _ _ _ h => h) (Or.inl ⟨by rfl, ?hyq50x⟩) (by assumption) ?restq50x
            case hyq50x =>
              intro w hSw
              (try dsimp only at hSw)
              go_simp
              all_goals (with_reducible rfl)
            try simp only [Act.put, List.setIfInBounds_toArray, List.set_cons_zero, List.set_cons_succ]
            refine wpAnyH_done (by kernel_rfl) ?_ _
            go_wp2_with fail
            refine wp_region_held_drew (S := fun w' => w'.cell? ⟨w.heap.size, 1, none⟩ = some (.slice (some ⟨ga, oa, none⟩) va.n va.c) ∧ w'.cell? ⟨w.heap.size + 1, 1, none⟩ = some (.slice (some ⟨gb, ob, none⟩) vb.n vb.c) ∧ w'.cell? ⟨ga, oa + i * 4, none⟩ = some (.int .i64 x.v) ∧ w'.cell? ⟨ga, oa + i * 4 + 1, none⟩ = some (.bool x.r.s) ∧ w'.cell? ⟨ga, oa + i * 4 + 2, none⟩ = some (.slice x.r.A x.r.n x.r.c) ∧ w'.cell? ⟨ga, oa + i * 4 + 3, none⟩ = some (.slice x.r.B x.r.m x.r.d) ∧ w'.cell? ⟨gb, ob + j * 4, none⟩ = some (.int .i64 y.v) ∧ w'.cell? ⟨gb, ob + j * 4 + 1, none⟩ = some (.bool y.r.s) ∧ w'.cell? ⟨gb, ob + j * 4 + 2, none⟩ = some (.slice y.r.A y.r.n y.r.c) ∧ w'.cell? ⟨gb, ob + j * 4 + 3, none⟩ = some (.slice y.r.B y.r.m y.r.d)) (by kernel_rfl) ?_ (fun hHeld => ?_)
            · (try dsimp only)
              go_keep
            refine wpAnyH_take (i := 0) (oi := { dst := some 83, op := Op.fieldAddr 27 (Operand.tmp 5) 1, type := 0, pos := "aff.go:59", after := #[], guard := none }) (v := ?vq9x) rfl (by kernel_rfl) (by kernel_rfl) (by kernel_rfl) (fun _ _ _ h => h) (Or.inl ⟨by rfl, ?hyq9x⟩) (by assumption) ?restq9x
            case hyq9x =>
              intro w hSw
              (try dsimp only at hSw)
              go_simp
              all_goals (with_reducible rfl)
            try simp only [Act.put, List.setIfInBounds_toArray, List.set_cons_zero, List.set_cons_succ]
            refine wpAnyH_take (i := 2) (oi := { dst := some 85, op := Op.fieldAddr 27 (Operand.tmp 2) 1, type := 0, pos := "aff.go:59", after := #[], guard := none }) (v := ?vq10x) rfl (by kernel_rfl) (by kernel_rfl) (by kernel_rfl) (fun _ _ _ h => h) (Or.inl ⟨by rfl, ?hyq10x⟩) (by assumption) ?restq10x
            case hyq10x =>
              intro w hSw
              (try dsimp only at hSw)
              go_simp
              all_goals (with_reducible rfl)
            try simp only [Act.put, List.setIfInBounds_toArray, List.set_cons_zero, List.set_cons_succ]
            refine wpAnyH_take (i := 3) (oi := { dst := some 86, op := Op.load 22 (Operand.tmp 85), type := 22, pos := "aff.go:59", after := #[{ on := 2, ground := Ground.data }], guard := none }) (v := ?vq11x) rfl (by kernel_rfl) (by kernel_rfl) (by kernel_rfl) (fun _ _ _ h => h) (Or.inl ⟨by rfl, ?hyq11x⟩) (by assumption) ?restq11x
            case hyq11x =>
              intro w hSw
              (try dsimp only at hSw)
              go_simp
              all_goals (with_reducible rfl)
            try simp only [Act.put, List.setIfInBounds_toArray, List.set_cons_zero, List.set_cons_succ]
            refine wpAnyH_take (i := 4) (oi := { dst := some 87, op := Op.move (Operand.tmp 6), type := 3, pos := "aff.go:59", after := #[], guard := none }) (v := ?vq12x) rfl (by kernel_rfl) (by kernel_rfl) (by kernel_rfl) (fun _ _ _ h => h) (Or.inl ⟨by rfl, ?hyq12x⟩) (by assumption) ?restq12x
            case hyq12x =>
              intro w hSw
              (try dsimp only at hSw)
              go_simp
              all_goals (with_reducible rfl)
            try simp only [Act.put, List.setIfInBounds_toArray, List.set_cons_zero, List.set_cons_succ]
            refine wpAnyH_take (i := 5) (oi := { dst := some 88, op := Op.indexAddr 22 (Operand.tmp 86) (Operand.tmp 87), type := 0, pos := "aff.go:59", after := #[{ on := 3, ground := Ground.data }, { on := 4, ground := Ground.data }], guard := none }) (v := ?vq13x) rfl (by kernel_rfl) (by kernel_rfl) (by kernel_rfl) (fun _ _ _ h => h) (Or.inl ⟨by rfl, ?hyq13x⟩) (by assumption) ?restq13x
            case hyq13x =>
              intro w hSw
              (try dsimp only at hSw)
              go_simp
              all_goals (with_reducible rfl)
            try simp only [Act.put, List.setIfInBounds_toArray, List.set_cons_zero, List.set_cons_succ]
            refine wpAnyH_take (i := 6) (oi := { dst := some 89, op := Op.fieldAddr 61 (Operand.tmp 88) 0, type := 0, pos := "aff.go:59", after := #[{ on := 5, ground := Ground.data }], guard := none }) (v := ?vq14x) rfl (by kernel_rfl) (by kernel_rfl) (by kernel_rfl) (fun _ _ _ h => h) (Or.inl ⟨by rfl, ?hyq14x⟩) (by assumption) ?restq14x
            case hyq14x =>
              intro w hSw
              (try dsimp only at hSw)
              go_simp
              all_goals (with_reducible rfl)
            try simp only [Act.put, List.setIfInBounds_toArray, List.set_cons_zero, List.set_cons_succ]
            refine wpAnyH_take (i := 7) (oi := { dst := some 90, op := Op.load 3 (Operand.tmp 89), type := 3, pos := "aff.go:59", after := #[{ on := 6, ground := Ground.data }], guard := none }) (v := ?vq15x) rfl (by kernel_rfl) (by kernel_rfl) (by kernel_rfl) (fun _ _ _ h => h) (Or.inl ⟨by rfl, ?hyq15x⟩) (by assumption) ?restq15x
            case hyq15x =>
              intro w hSw
              (try dsimp only at hSw)
              go_simp
              all_goals (with_reducible rfl)
            try simp only [Act.put, List.setIfInBounds_toArray, List.set_cons_zero, List.set_cons_succ]
            refine wpAnyH_take (i := 8) (oi := { dst := some 91, op := Op.fieldAddr 27 (Operand.tmp 2) 1, type := 0, pos := "aff.go:59", after := #[], guard := none }) (v := ?vq16x) rfl (by kernel_rfl) (by kernel_rfl) (by kernel_rfl) (fun _ _ _ h => h) (Or.inl ⟨by rfl, ?hyq16x⟩) (by assumption) ?restq16x
            case hyq16x =>
              intro w hSw
              (try dsimp only at hSw)
              go_simp
              all_goals (with_reducible rfl)
            try simp only [Act.put, List.setIfInBounds_toArray, List.set_cons_zero, List.set_cons_succ]
            refine wpAnyH_take (i := 9) (oi := { dst := some 92, op := Op.load 22 (Operand.tmp 91), type := 22, pos := "aff.go:59", after := #[{ on := 8, ground := Ground.data }], guard := none }) (v := ?vq17x) rfl (by kernel_rfl) (by kernel_rfl) (by kernel_rfl) (fun _ _ _ h => h) (Or.inl ⟨by rfl, ?hyq17x⟩) (by assumption) ?restq17x
            case hyq17x =>
              intro w hSw
              (try dsimp only at hSw)
              go_simp
              all_goals (with_reducible rfl)
            try simp only [Act.put, List.setIfInBounds_toArray, List.set_cons_zero, List.set_cons_succ]
            refine wpAnyH_take (i := 10) (oi := { dst := some 93, op := Op.move (Operand.tmp 6), type := 3, pos := "aff.go:59", after := #[], guard := none }) (v := ?vq18x) rfl (by kernel_rfl) (by kernel_rfl) (by kernel_rfl) (fun _ _ _ h => h) (Or.inl ⟨by rfl, ?hyq18x⟩) (by assumption) ?restq18x
            case hyq18x =>
              intro w hSw
              (try dsimp only at hSw)
              go_simp
              all_goals (with_reducible rfl)
            try simp only [Act.put, List.setIfInBounds_toArray, List.set_cons_zero, List.set_cons_succ]
            refine wpAnyH_take (i := 11) (oi := { dst := some 94, op := Op.indexAddr 22 (Operand.tmp 92) (Operand.tmp 93), type := 0, pos := "aff.go:59", after := #[{ on := 9, ground := Ground.data }, { on := 10, ground := Ground.data }], guard := none }) (v := ?vq19x) rfl (by kernel_rfl) (by kernel_rfl) (by kernel_rfl) (fun _ _ _ h => h) (Or.inl ⟨by rfl, ?hyq19x⟩) (by assumption) ?restq19x
            case hyq19x =>
              intro w hSw
              (try dsimp only at hSw)
              go_simp
              all_goals (with_reducible rfl)
            try simp only [Act.put, List.setIfInBounds_toArray, List.set_cons_zero, List.set_cons_succ]
            refine wpAnyH_take (i := 12) (oi := { dst := some 95, op := Op.fieldAddr 61 (Operand.tmp 94) 1, type := 0, pos := "aff.go:59", after := #[{ on := 11, ground := Ground.data }], guard := none }) (v := ?vq20x) rfl (by kernel_rfl) (by kernel_rfl) (by kernel_rfl) (fun _ _ _ h => h) (Or.inl ⟨by rfl, ?hyq20x⟩) (by assumption) ?restq20x
            case hyq20x =>
              intro w hSw
              (try dsimp only at hSw)
              go_simp
              all_goals (with_reducible rfl)
            try simp only [Act.put, List.setIfInBounds_toArray, List.set_cons_zero, List.set_cons_succ]
            refine wpAnyH_take (i := 13) (oi := { dst := some 96, op := Op.load 25 (Operand.tmp 95), type := 25, pos := "aff.go:59", after := #[{ on := 12, ground := Ground.data }], guard := none }) (v := ?vq21x) rfl (by kernel_rfl) (by kernel_rfl) (by kernel_rfl) (fun _ _ _ h => h) (Or.inl ⟨by rfl, ?hyq21x⟩) (by assumption) ?restq21x
            case hyq21x =>
              intro w hSw
              (try dsimp only at hSw)
              go_simp
              all_goals (with_reducible rfl)
            try simp only [Act.put, List.setIfInBounds_toArray, List.set_cons_zero, List.set_cons_succ]
            refine wpAnyH_ready (rs := [1]) (by kernel_rfl) (by simp) ?_
            refine AllReadyH.cons (o := { dst := some 84, op := Op.load 22 (Operand.tmp 83), type := 22, pos := "aff.go:59", after := #[{ on := 0, ground := Ground.data }], guard := none }) rfl (fun K hK => ?_) AllReadyH.nil
            try go_simp
            try go_wp2_with fail
            refine hK.out _ _ ?_ (fun hHeld => ?_)
            · (try dsimp only)
              go_keep
            clear hK K
            try simp only [Act.put, List.setIfInBounds_toArray, List.set_cons_zero, List.set_cons_succ]
            refine wpAnyH_ready (rs := [14]) (by kernel_rfl) (by simp) ?_
            refine AllReadyH.cons (o := { dst := some 97, op := Op.call { callee := Callee.value (Operand.func 36), args := #[Operand.tmp 84, Operand.tmp 90, Operand.tmp 96], argTypes := #[22, 3, 25] }, type := 22, pos := "aff.go:59", after := #[{ on := 1, ground := Ground.data }, { on := 7, ground := Ground.data }, { on := 13, ground := Ground.data }], guard := none }) rfl (fun K hK => ?_) AllReadyH.nil
            try go_simp
            go_at_call 36
            refine (lay_c R p e wc.heap.size ls D x.v x.r P.2 _ (HIN.out.gr.below (bel_n wr 2)) ((HXR.out _ (bel_n wr 2)).more (by omega)) (by omega) (Nat.le_trans HIN.out.sz.1 ((bel_n wr 2)).size)).mono ?_
            rintro ee w4 ⟨R2, c2, p2, ls2, rfl, hp2, hg2, hb, _, _⟩
            have hk := kept_lo (kept_below (bel_n wr 2) HIN.out.sz) hb
            clear a0 a1 a2 a3 a4 b0 b1 b2 b3 b4 x0 x1 x2 x3 y0 y1 y2 y3 s0 s1 s2 s3 s4 t0 t1 t2 t3 t4
            obtain ⟨a0, a1, a2, a3, a4⟩ := (HALL0.out _ hk).1.facts
            obtain ⟨b0, b1, b2, b3, b4⟩ := (HALL0.out _ hk).2.1.facts
            rw [HVA.out] at a1
            obtain ⟨x0, x1, x2, x3⟩ := HXC.out _ hk
            rw [HVB.out] at b1
            obtain ⟨y0, y1, y2, y3⟩ := HYC.out _ hk
            obtain ⟨s0, s1, s2, s3, s4⟩ := ((HBEL.out _ (bel_n wr 2)).at hb HX0.out.lt).facts
            obtain ⟨t0, t1, t2, t3, t4⟩ := ((HBEL.out _ (bel_n wr 2)).at hb HX0.out.lt).thaw
            have HG4 := Lib.hid hg2
            have HB4 := Lib.hid (And.intro hk (And.intro (bel_n wr 2) hb))
            clear hb hk hg2
            try go_wp2_with fail
            refine hK.out _ _ ?_ (fun hHeld => ?_)
            · (try dsimp only)
              go_keep
            clear hK K
            try simp only [Act.put, List.setIfInBounds_toArray, List.set_cons_zero, List.set_cons_succ]
            refine wpAnyH_take (i := 15) (oi := { dst := some 98, op := Op.fieldAddr 27 (Operand.tmp 5) 1, type := 0, pos := "aff.go:59", after := #[{ on := 0, ground := Ground.phase }, { on := 1, ground := Ground.phase }, { on := 2, ground := Ground.phase }, { on := 3, ground := Ground.phase }, { on := 4, ground := Ground.phase }, { on := 5, ground := Ground.phase }, { on := 6, ground := Ground.phase }, { on := 7, ground := Ground.phase }, { on := 8, ground := Ground.phase }, { on := 9, ground := Ground.phase }, { on := 10, ground := Ground.phase }, { on := 11, ground := Ground.phase }, { on := 12, ground := Ground.phase }, { on := 13, ground := Ground.phase }, { on := 14, ground := Ground.phase }], guard := none }) (v := ?vq22x) rfl (by kernel_rfl) (by kernel_rfl) (by kernel_rfl) (fun _ _ _ h => h) (Or.inl ⟨by rfl, ?hyq22x⟩) (by assumption) ?restq22x
            case hyq22x =>
              intro w hSw
              (try dsimp only at hSw)
              go_simp
              all_goals (with_reducible rfl)
            try simp only [Act.put, List.setIfInBounds_toArray, List.set_cons_zero, List.set_cons_succ]
            refine wpAnyH_ready (rs := [16]) (by kernel_rfl) (by simp) ?_
            refine AllReadyH.cons (o := { dst := none, op := Op.store 22 (Operand.tmp 98) (Operand.tmp 97), type := 0, pos := "aff.go:59", after := #[{ on := 15, ground := Ground.data }, { on := 14, ground := Ground.data }, { on := 14, ground := Ground.chain }, { on := 0, ground := Ground.phase }, { on := 1, ground := Ground.phase }, { on := 2, ground := Ground.phase }, { on := 3, ground := Ground.phase }, { on := 4, ground := Ground.phase }, { on := 5, ground := Ground.phase }, { on := 6, ground := Ground.phase }, { on := 7, ground := Ground.phase }, { on := 8, ground := Ground.phase }, { on := 9, ground := Ground.phase }, { on := 10, ground := Ground.phase }, { on := 11, ground := Ground.phase }, { on := 12, ground := Ground.phase }, { on := 13, ground := Ground.phase }, { on := 14, ground := Ground.phase }], guard := none }) rfl (fun K hK => ?_) AllReadyH.nil
            try go_simp
            try go_wp2_with fail
            refine hK.out _ _ ?_ (fun hHeld => ?_)
            · (try dsimp only)
              go_keep
            clear hK K
            try simp only [Act.put, List.setIfInBounds_toArray, List.set_cons_zero, List.set_cons_succ]
            refine wpAnyH_done (by kernel_rfl) ?_ _
            clear a0 a1 a2 a3 a4 b0 b1 b2 b3 b4 x0 x1 x2 x3 y0 y1 y2 y3 s0 s1 s2 s3 s4 t0 t1 t2 t3 t4
            go_wp2
            go_roundw
            case rel => exact ⟨i + 1, j, R2, p2, c2, ls2, _, by omega, by omega, by go_num, by go_num, Lib.hid (RG.step HIN.out (HRA) HG4.out HB4.out.1 HB4.out.2.1 HB4.out.2.2 hp2)⟩
            case measure => simp [intOf]; omega
          by_cases h2 : y.v < x.v
          · have HRB := Lib.hid (And.intro (rest_gt HP.out.1 HQ.out.1 HP.out.2 HQ.out.2 h2) (show i + j + 1 ≤ i + (j + 1) by omega))
            go_wp2_with fail
            refine wp_region_held_drew (S := fun w' => w'.cell? ⟨w.heap.size, 1, none⟩ = some (.slice (some ⟨ga, oa, none⟩) va.n va.c) ∧ w'.cell? ⟨w.heap.size + 1, 1, none⟩ = some (.slice (some ⟨gb, ob, none⟩) vb.n vb.c) ∧ w'.cell? ⟨ga, oa + i * 4, none⟩ = some (.int .i64 x.v) ∧ w'.cell? ⟨ga, oa + i * 4 + 1, none⟩ = some (.bool x.r.s) ∧ w'.cell? ⟨ga, oa + i * 4 + 2, none⟩ = some (.slice x.r.A x.r.n x.r.c) ∧ w'.cell? ⟨ga, oa + i * 4 + 3, none⟩ = some (.slice x.r.B x.r.m x.r.d) ∧ w'.cell? ⟨gb, ob + j * 4, none⟩ = some (.int .i64 y.v) ∧ w'.cell? ⟨gb, ob + j * 4 + 1, none⟩ = some (.bool y.r.s) ∧ w'.cell? ⟨gb, ob + j * 4 + 2, none⟩ = some (.slice y.r.A y.r.n y.r.c) ∧ w'.cell? ⟨gb, ob + j * 4 + 3, none⟩ = some (.slice y.r.B y.r.m y.r.d)) (by kernel_rfl) ?_ (fun hHeld => ?_)
            · (try dsimp only)
              go_keep
            refine wpAnyH_take (i := 0) (oi := { dst := some 56, op := Op.move (Operand.tmp 7), type := 3, pos := "aff.go:58", after := #[], guard := none }) (v := ?vq86x) rfl (by kernel_rfl) (by kernel_rfl) (by kernel_rfl) (fun _ _ _ h => h) (Or.inl ⟨by rfl, ?hyq86x⟩) (by assumption) ?restq86x
            case hyq86x =>
              intro w hSw
              (try dsimp only at hSw)
              go_simp
              all_goals (with_reducible rfl)
            try simp only [Act.put, List.setIfInBounds_toArray, List.set_cons_zero, List.set_cons_succ]
            refine wpAnyH_take (i := 1) (oi := { dst := some 57, op := Op.fieldAddr 27 (Operand.tmp 3) 1, type := 0, pos := "aff.go:58", after := #[], guard := none }) (v := ?vq87x) rfl (by kernel_rfl) (by kernel_rfl) (by kernel_rfl) (fun _ _ _ h => h) (Or.inl ⟨by rfl, ?hyq87x⟩) (by assumption) ?restq87x
            case hyq87x =>
              intro w hSw
              (try dsimp only at hSw)
              go_simp
              all_goals (with_reducible rfl)
            try simp only [Act.put, List.setIfInBounds_toArray, List.set_cons_zero, List.set_cons_succ]
            refine wpAnyH_take (i := 2) (oi := { dst := some 58, op := Op.load 22 (Operand.tmp 57), type := 22, pos := "aff.go:58", after := #[{ on := 1, ground := Ground.data }], guard := none }) (v := ?vq88x) rfl (by kernel_rfl) (by kernel_rfl) (by kernel_rfl) (fun _ _ _ h => h) (Or.inl ⟨by rfl, ?hyq88x⟩) (by assumption) ?restq88x
            case hyq88x =>
              intro w hSw
              (try dsimp only at hSw)
              go_simp
              all_goals (with_reducible rfl)
            try simp only [Act.put, List.setIfInBounds_toArray, List.set_cons_zero, List.set_cons_succ]
            refine wpAnyH_take (i := 3) (oi := { dst := some 59, op := Op.call { callee := Callee.builtin Builtin.len, args := #[Operand.tmp 58], argTypes := #[22] }, type := 3, pos := "aff.go:58", after := #[{ on := 2, ground := Ground.data }], guard := none }) (v := ?vq89x) rfl (by kernel_rfl) (by kernel_rfl) (by kernel_rfl) (fun _ _ _ h => h) (Or.inl ⟨by rfl, ?hyq89x⟩) (by assumption) ?restq89x
            case hyq89x =>
              intro w hSw
              (try dsimp only at hSw)
              go_simp
              all_goals (with_reducible rfl)
            try simp only [Act.put, List.setIfInBounds_toArray, List.set_cons_zero, List.set_cons_succ]
            refine wpAnyH_take (i := 4) (oi := { dst := some 60, op := Op.binOp BinOp.eql 3 (Operand.tmp 56) (Operand.tmp 59) 3, type := 4, pos := "aff.go:58", after := #[{ on := 0, ground := Ground.data }, { on := 3, ground := Ground.data }], guard := none }) (v := ?vq90x) rfl (by kernel_rfl) (by kernel_rfl) (by kernel_rfl) (fun _ _ _ h => h) (Or.inl ⟨by rfl, ?hyq90x⟩) (by assumption) ?restq90x
            case hyq90x =>
              intro w hSw
              (try dsimp only at hSw)
              go_simp
              all_goals (with_reducible rfl)
            try simp only [Act.put, List.setIfInBounds_toArray, List.set_cons_zero, List.set_cons_succ]
            refine wpAnyH_take (i := 5) (oi := { dst := some 61, op := Op.move (Operand.tmp 60), type := 4, pos := "aff.go:58", after := #[{ on := 4, ground := Ground.data }], guard := none }) (v := ?vq91x) rfl (by kernel_rfl) (by kernel_rfl) (by kernel_rfl) (fun _ _ _ h => h) (Or.inl ⟨by rfl, ?hyq91x⟩) (by assumption) ?restq91x
            case hyq91x =>
              intro w hSw
              (try dsimp only at hSw)
              go_simp
              all_goals (with_reducible rfl)
            try simp only [Act.put, List.setIfInBounds_toArray, List.set_cons_zero, List.set_cons_succ]
            refine wpAnyH_take (i := 6) (oi := { dst := some 62, op := Op.move (Operand.tmp 6), type := 3, pos := "aff.go:58", after := #[{ on := 5, ground := Ground.guard }], guard := some (5, false) }) (v := ?vq92x) rfl (by kernel_rfl) (by kernel_rfl) (by kernel_rfl) (fun _ _ _ h => h) (Or.inl ⟨by rfl, ?hyq92x⟩) (by assumption) ?restq92x
            case hyq92x =>
              intro w hSw
              (try dsimp only at hSw)
              go_simp
              all_goals (with_reducible rfl)
            try simp only [Act.put, List.setIfInBounds_toArray, List.set_cons_zero, List.set_cons_succ]
            refine wpAnyH_take (i := 7) (oi := { dst := some 63, op := Op.fieldAddr 27 (Operand.tmp 2) 1, type := 0, pos := "aff.go:58", after := #[{ on := 5, ground := Ground.guard }], guard := some (5, false) }) (v := ?vq93x) rfl (by kernel_rfl) (by kernel_rfl) (by kernel_rfl) (fun _ _ _ h => h) (Or.inl ⟨by rfl, ?hyq93x⟩) (by assumption) ?restq93x
            case hyq93x =>
              intro w hSw
              (try dsimp only at hSw)
              go_simp
              all_goals (with_reducible rfl)
            try simp only [Act.put, List.setIfInBounds_toArray, List.set_cons_zero, List.set_cons_succ]
            refine wpAnyH_take (i := 8) (oi := { dst := some 64, op := Op.load 22 (Operand.tmp 63), type := 22, pos := "aff.go:58", after := #[{ on := 7, ground := Ground.data }, { on := 5, ground := Ground.guard }], guard := some (5, false) }) (v := ?vq94x) rfl (by kernel_rfl) (by kernel_rfl) (by kernel_rfl) (fun _ _ _ h => h) (Or.inl ⟨by rfl, ?hyq94x⟩) (by assumption) ?restq94x
            case hyq94x =>
              intro w hSw
              (try dsimp only at hSw)
              go_simp
              all_goals (with_reducible rfl)
            try simp only [Act.put, List.setIfInBounds_toArray, List.set_cons_zero, List.set_cons_succ]
            refine wpAnyH_take (i := 9) (oi := { dst := some 65, op := Op.call { callee := Callee.builtin Builtin.len, args := #[Operand.tmp 64], argTypes := #[22] }, type := 3, pos := "aff.go:58", after := #[{ on := 8, ground := Ground.data }, { on := 5, ground := Ground.guard }], guard := some (5, false) }) (v := ?vq95x) rfl (by kernel_rfl) (by kernel_rfl) (by kernel_rfl) (fun _ _ _ h => h) (Or.inl ⟨by rfl, ?hyq95x⟩) (by assumption) ?restq95x
            case hyq95x =>
              intro w hSw
              (try dsimp only at hSw)
              go_simp
              all_goals (with_reducible rfl)
            try simp only [Act.put, List.setIfInBounds_toArray, List.set_cons_zero, List.set_cons_succ]
            refine wpAnyH_take (i := 10) (oi := { dst := some 66, op := Op.binOp BinOp.lss 3 (Operand.tmp 62) (Operand.tmp 65) 3, type := 4, pos := "aff.go:58", after := #[{ on := 6, ground := Ground.data }, { on := 9, ground := Ground.data }, { on := 5, ground := Ground.guard }], guard := some (5, false) }) (v := ?vq96x) rfl (by kernel_rfl) (by kernel_rfl) (by kernel_rfl) (fun _ _ _ h => h) (Or.inl ⟨by rfl, ?hyq96x⟩) (by assumption) ?restq96x
            case hyq96x =>
              intro w hSw
              (try dsimp only at hSw)
              go_simp
              all_goals (with_reducible rfl)
            try simp only [Act.put, List.setIfInBounds_toArray, List.set_cons_zero, List.set_cons_succ]
            refine wpAnyH_take (i := 11) (oi := { dst := some 67, op := Op.move (Operand.tmp 66), type := 4, pos := "aff.go:58", after := #[{ on := 10, ground := Ground.data }, { on := 5, ground := Ground.chain }, { on := 5, ground := Ground.guard }], guard := some (5, false) }) (v := ?vq97x) rfl (by kernel_rfl) (by kernel_rfl) (by kernel_rfl) (fun _ _ _ h => h) (Or.inl ⟨by rfl, ?hyq97x⟩) (by assumption) ?restq97x
            case hyq97x =>
              intro w hSw
              (try dsimp only at hSw)
              go_simp
              all_goals (with_reducible rfl)
            try simp only [Act.put, List.setIfInBounds_toArray, List.set_cons_zero, List.set_cons_succ]
            refine wpAnyH_take (i := 12) (oi := { dst := some 68, op := Op.fieldAddr 27 (Operand.tmp 2) 1, type := 0, pos := "aff.go:58", after := #[{ on := 11, ground := Ground.guard }], guard := some (11, true) }) (v := ?vq98x) rfl (by kernel_rfl) (by kernel_rfl) (by kernel_rfl) (fun _ _ _ h => h) (Or.inl ⟨by rfl, ?hyq98x⟩) (by assumption) ?restq98x
            case hyq98x =>
              intro w hSw
              (try dsimp only at hSw)
              go_simp
              all_goals (with_reducible rfl)
            try simp only [Act.put, List.setIfInBounds_toArray, List.set_cons_zero, List.set_cons_succ]
            refine wpAnyH_take (i := 13) (oi := { dst := some 69, op := Op.load 22 (Operand.tmp 68), type := 22, pos := "aff.go:58", after := #[{ on := 12, ground := Ground.data }, { on := 11, ground := Ground.guard }], guard := some (11, true) }) (v := ?vq99x) rfl (by kernel_rfl) (by kernel_rfl) (by kernel_rfl) (fun _ _ _ h => h) (Or.inl ⟨by rfl, ?hyq99x⟩) (by assumption) ?restq99x
            case hyq99x =>
              intro w hSw
              (try dsimp only at hSw)
              go_simp
              all_goals (with_reducible rfl)
            try simp only [Act.put, List.setIfInBounds_toArray, List.set_cons_zero, List.set_cons_succ]
            refine wpAnyH_take (i := 14) (oi := { dst := some 70, op := Op.move (Operand.tmp 6), type := 3, pos := "aff.go:58", after := #[{ on := 11, ground := Ground.guard }], guard := some (11, true) }) (v := ?vq100x) rfl (by kernel_rfl) (by kernel_rfl) (by kernel_rfl) (fun _ _ _ h => h) (Or.inl ⟨by rfl, ?hyq100x⟩) (by assumption) ?restq100x
            case hyq100x =>
              intro w hSw
              (try dsimp only at hSw)
              go_simp
              all_goals (with_reducible rfl)
            try simp only [Act.put, List.setIfInBounds_toArray, List.set_cons_zero, List.set_cons_succ]
            refine wpAnyH_take (i := 15) (oi := { dst := some 71, op := Op.indexAddr 22 (Operand.tmp 69) (Operand.tmp 70), type := 0, pos := "aff.go:58", after := #[{ on := 13, ground := Ground.data }, { on := 14, ground := Ground.data }, { on := 11, ground := Ground.guard }], guard := some (11, true) }) (v := ?vq101x) rfl (by kernel_rfl) (by kernel_rfl) (by kernel_rfl) (fun _ _ _ h => h) (Or.inl ⟨by rfl, ?hyq101x⟩) (by assumption) ?restq101x
            case hyq101x =>
              intro w hSw
              (try dsimp only at hSw)
              go_simp
              all_goals (with_reducible rfl)
            try simp only [Act.put, List.setIfInBounds_toArray, List.set_cons_zero, List.set_cons_succ]
            refine wpAnyH_take (i := 16) (oi := { dst := some 72, op := Op.fieldAddr 61 (Operand.tmp 71) 0, type := 0, pos := "aff.go:58", after := #[{ on := 15, ground := Ground.data }, { on := 11, ground := Ground.guard }], guard := some (11, true) }) (v := ?vq102x) rfl (by kernel_rfl) (by kernel_rfl) (by kernel_rfl) (fun _ _ _ h => h) (Or.inl ⟨by rfl, ?hyq102x⟩) (by assumption) ?restq102x
            case hyq102x =>
              intro w hSw
              (try dsimp only at hSw)
              go_simp
              all_goals (with_reducible rfl)
            try simp only [Act.put, List.setIfInBounds_toArray, List.set_cons_zero, List.set_cons_succ]
            refine wpAnyH_take (i := 17) (oi := { dst := some 73, op := Op.load 3 (Operand.tmp 72), type := 3, pos := "aff.go:58", after := #[{ on := 16, ground := Ground.data }, { on := 11, ground := Ground.guard }], guard := some (11, true) }) (v := ?vq103x) rfl (by kernel_rfl) (by kernel_rfl) (by kernel_rfl) (fun _ _ _ h => h) (Or.inl ⟨by rfl, ?hyq103x⟩) (by assumption) ?restq103x
            case hyq103x =>
              intro w hSw
              (try dsimp only at hSw)
              go_simp
              all_goals (with_reducible rfl)
            try simp only [Act.put, List.setIfInBounds_toArray, List.set_cons_zero, List.set_cons_succ]
            refine wpAnyH_take (i := 18) (oi := { dst := some 74, op := Op.fieldAddr 27 (Operand.tmp 3) 1, type := 0, pos := "aff.go:58", after := #[{ on := 11, ground := Ground.guard }], guard := some (11, true) }) (v := ?vq104x) rfl (by kernel_rfl) (by kernel_rfl) (by kernel_rfl) (fun _ _ _ h => h) (Or.inl ⟨by rfl, ?hyq104x⟩) (by assumption) ?restq104x
            case hyq104x =>
              intro w hSw
              (try dsimp only at hSw)
              go_simp
              all_goals (with_reducible rfl)
            try simp only [Act.put, List.setIfInBounds_toArray, List.set_cons_zero, List.set_cons_succ]
            refine wpAnyH_take (i := 19) (oi := { dst := some 75, op := Op.load 22 (Operand.tmp 74), type := 22, pos := "aff.go:58", after := #[{ on := 18, ground := Ground.data }, { on := 11, ground := Ground.guard }], guard := some (11, true) }) (v := ?vq105x) rfl (by kernel_rfl) (by kernel_rfl) (by kernel_rfl) (fun _ _ _ h => h) (Or.inl ⟨by rfl, ?hyq105x⟩) (by assumption) ?restq105x
            case hyq105x =>
              intro w hSw
              (try dsimp only at hSw)
              go_simp
              all_goals (with_reducible rfl)
            try simp only [Act.put, List.setIfInBounds_toArray, List.set_cons_zero, List.set_cons_succ]
            refine wpAnyH_take (i := 20) (oi := { dst := some 76, op := Op.move (Operand.tmp 7), type := 3, pos := "aff.go:58", after := #[{ on := 11, ground := Ground.guard }], guard := some (11, true) }) (v := ?vq106x) rfl (by kernel_rfl) (by kernel_rfl) (by kernel_rfl) (fun _ _ _ h => h) (Or.inl ⟨by rfl, ?hyq106x⟩) (by assumption) ?restq106x
            case hyq106x =>
              intro w hSw
              (try dsimp only at hSw)
              go_simp
              all_goals (with_reducible rfl)
            try simp only [Act.put, List.setIfInBounds_toArray, List.set_cons_zero, List.set_cons_succ]
            refine wpAnyH_take (i := 21) (oi := { dst := some 77, op := Op.indexAddr 22 (Operand.tmp 75) (Operand.tmp 76), type := 0, pos := "aff.go:58", after := #[{ on := 19, ground := Ground.data }, { on := 20, ground := Ground.data }, { on := 11, ground := Ground.guard }], guard := some (11, true) }) (v := ?vq107x) rfl (by kernel_rfl) (by kernel_rfl) (by kernel_rfl) (fun _ _ _ h => h) (Or.inl ⟨by rfl, ?hyq107x⟩) (by assumption) ?restq107x
            case hyq107x =>
              intro w hSw
              (try dsimp only at hSw)
              go_simp
              all_goals (with_reducible rfl)
            try simp only [Act.put, List.setIfInBounds_toArray, List.set_cons_zero, List.set_cons_succ]
            refine wpAnyH_take (i := 22) (oi := { dst := some 78, op := Op.fieldAddr 61 (Operand.tmp 77) 0, type := 0, pos := "aff.go:58", after := #[{ on := 21, ground := Ground.data }, { on := 11, ground := Ground.guard }], guard := some (11, true) }) (v := ?vq108x) rfl (by kernel_rfl) (by kernel_rfl) (by kernel_rfl) (fun _ _ _ h => h) (Or.inl ⟨by rfl, ?hyq108x⟩) (by assumption) ?restq108x
            case hyq108x =>
              intro w hSw
              (try dsimp only at hSw)
              go_simp
              all_goals (with_reducible rfl)
            try simp only [Act.put, List.setIfInBounds_toArray, List.set_cons_zero, List.set_cons_succ]
            refine wpAnyH_take (i := 23) (oi := { dst := some 79, op := Op.load 3 (Operand.tmp 78), type := 3, pos := "aff.go:58", after := #[{ on := 22, ground := Ground.data }, { on := 11, ground := Ground.guard }], guard := some (11, true) }) (v := ?vq109x) rfl (by kernel_rfl) (by kernel_rfl) (by kernel_rfl) (fun _ _ _ h => h) (Or.inl ⟨by rfl, ?hyq109x⟩) (by assumption) ?restq109x
            case hyq109x =>
              intro w hSw
              (try dsimp only at hSw)
              go_simp
              all_goals (with_reducible rfl)
            try simp only [Act.put, List.setIfInBounds_toArray, List.set_cons_zero, List.set_cons_succ]
            refine wpAnyH_take (i := 24) (oi := { dst := some 80, op := Op.binOp BinOp.lss 3 (Operand.tmp 73) (Operand.tmp 79) 3, type := 4, pos := "aff.go:58", after := #[{ on := 17, ground := Ground.data }, { on := 23, ground := Ground.data }, { on := 11, ground := Ground.guard }], guard := some (11, true) }) (v := ?vq110x) rfl (by kernel_rfl) (by kernel_rfl) (by kernel_rfl) (fun _ _ _ h => h) (Or.inl ⟨by rfl, ?hyq110x⟩) (by assumption) ?restq110x
            case hyq110x =>
              intro w hSw
              (try dsimp only at hSw)
              go_simp
              all_goals (with_reducible rfl)
            try simp only [Act.put, List.setIfInBounds_toArray, List.set_cons_zero, List.set_cons_succ]
            refine wpAnyH_take (i := 25) (oi := { dst := some 81, op := Op.pick (Operand.tmp 67) (Operand.tmp 80) (Operand.const (Value.bool false)), type := 4, pos := "aff.go:58", after := #[{ on := 11, ground := Ground.data }, { on := 24, ground := Ground.data }, { on := 5, ground := Ground.guard }], guard := some (5, false) }) (v := ?vq111x) rfl (by kernel_rfl) (by kernel_rfl) (by kernel_rfl) (fun _ _ _ h => h) (Or.inl ⟨by rfl, ?hyq111x⟩) (by assumption) ?restq111x
            case hyq111x =>
              intro w hSw
              (try dsimp only at hSw)
              go_simp
              all_goals (with_reducible rfl)
            try simp only [Act.put, List.setIfInBounds_toArray, List.set_cons_zero, List.set_cons_succ]
            refine wpAnyH_take (i := 26) (oi := { dst := some 82, op := Op.pick (Operand.tmp 61) (Operand.const (Value.bool true)) (Operand.tmp 81), type := 4, pos := "aff.go:58", after := #[{ on := 5, ground := Ground.data }, { on := 25, ground := Ground.data }], guard := none }) (v := ?vq112x) rfl (by kernel_rfl) (by kernel_rfl) (by kernel_rfl) (fun _ _ _ h => h) (Or.inl ⟨by rfl, ?hyq112x⟩) (by assumption) ?restq112x
            case hyq112x =>
              intro w hSw
              (try dsimp only at hSw)
              go_simp
              all_goals (with_reducible rfl)
            try simp only [Act.put, List.setIfInBounds_toArray, List.set_cons_zero, List.set_cons_succ]
            refine wpAnyH_take (i := 27) (oi := { dst := some 55, op := Op.assign (Operand.tmp 82), type := 4, pos := "aff.go:58", after := #[{ on := 26, ground := Ground.data }, { on := 11, ground := Ground.chain }], guard := none }) (v := ?vq113x) rfl (by kernel_rfl) (by kernel_rfl) (by kernel_rfl) (fun _ _ _ h => h) (Or.inl ⟨by rfl, ?hyq113x⟩) (by assumption) ?restq113x
            case hyq113x =>
              intro w hSw
              (try dsimp only at hSw)
              go_simp
              all_goals (with_reducible rfl)
            try simp only [Act.put, List.setIfInBounds_toArray, List.set_cons_zero, List.set_cons_succ]
            refine wpAnyH_done (by kernel_rfl) ?_ _
            go_wp2_with fail
            refine wp_region_held_drew (S := fun w' => w'.cell? ⟨w.heap.size, 1, none⟩ = some (.slice (some ⟨ga, oa, none⟩) va.n va.c) ∧ w'.cell? ⟨w.heap.size + 1, 1, none⟩ = some (.slice (some ⟨gb, ob, none⟩) vb.n vb.c) ∧ w'.cell? ⟨ga, oa + i * 4, none⟩ = some (.int .i64 x.v) ∧ w'.cell? ⟨ga, oa + i * 4 + 1, none⟩ = some (.bool x.r.s) ∧ w'.cell? ⟨ga, oa + i * 4 + 2, none⟩ = some (.slice x.r.A x.r.n x.r.c) ∧ w'.cell? ⟨ga, oa + i * 4 + 3, none⟩ = some (.slice x.r.B x.r.m x.r.d) ∧ w'.cell? ⟨gb, ob + j * 4, none⟩ = some (.int .i64 y.v) ∧ w'.cell? ⟨gb, ob + j * 4 + 1, none⟩ = some (.bool y.r.s) ∧ w'.cell? ⟨gb, ob + j * 4 + 2, none⟩ = some (.slice y.r.A y.r.n y.r.c) ∧ w'.cell? ⟨gb, ob + j * 4 + 3, none⟩ = some (.slice y.r.B y.r.m y.r.d)) (by kernel_rfl) ?_ (fun hHeld => ?_)
            · (try dsimp only)
              go_keep
            refine wpAnyH_take (i := 0) (oi := { dst := some 102, op := Op.move (Operand.tmp 6), type := 3, pos := "aff.go:61", after := #[], guard := none }) (v := ?vq65x) rfl (by kernel_rfl) (by kernel_rfl) (by kernel_rfl) (fun _ _ _ h => h) (Or.inl ⟨by rfl, ?hyq65x⟩) (by assumption) ?restq65x
            case hyq65x =>
              intro w hSw
              (try dsimp only at hSw)
              go_simp
              all_goals (with_reducible rfl)
            try simp only [Act.put, List.setIfInBounds_toArray, List.set_cons_zero, List.set_cons_succ]
            refine wpAnyH_take (i := 1) (oi := { dst := some 103, op := Op.fieldAddr 27 (Operand.tmp 2) 1, type := 0, pos := "aff.go:61", after := #[], guard := none }) (v := ?vq66x) rfl (by kernel_rfl) (by kernel_rfl) (by kernel_rfl) (fun _ _ _ h => h) (Or.inl ⟨by rfl, ?hyq66x⟩) (by assumption) ?restq66x
            case hyq66x =>
              intro w hSw
              (try dsimp only at hSw)
              go_simp
              all_goals (with_reducible rfl)
            try simp only [Act.put, List.setIfInBounds_toArray, List.set_cons_zero, List.set_cons_succ]
            refine wpAnyH_take (i := 2) (oi := { dst := some 104, op := Op.load 22 (Operand.tmp 103), type := 22, pos := "aff.go:61", after := #[{ on := 1, ground := Ground.data }], guard := none }) (v := ?vq67x) rfl (by kernel_rfl) (by kernel_rfl) (by kernel_rfl) (fun _ _ _ h => h) (Or.inl ⟨by rfl, ?hyq67x⟩) (by assumption) ?restq67x
            case hyq67x =>
              intro w hSw
              (try dsimp only at hSw)
              go_simp
              all_goals (with_reducible rfl)
            try simp only [Act.put, List.setIfInBounds_toArray, List.set_cons_zero, List.set_cons_succ]
            refine wpAnyH_take (i := 3) (oi := { dst := some 105, op := Op.call { callee := Callee.builtin Builtin.len, args := #[Operand.tmp 104], argTypes := #[22] }, type := 3, pos := "aff.go:61", after := #[{ on := 2, ground := Ground.data }], guard := none }) (v := ?vq68x) rfl (by kernel_rfl) (by kernel_rfl) (by kernel_rfl) (fun _ _ _ h => h) (Or.inl ⟨by rfl, ?hyq68x⟩) (by assumption) ?restq68x
            case hyq68x =>
              intro w hSw
              (try dsimp only at hSw)
              go_simp
              all_goals (with_reducible rfl)
            try simp only [Act.put, List.setIfInBounds_toArray, List.set_cons_zero, List.set_cons_succ]
            refine wpAnyH_take (i := 4) (oi := { dst := some 106, op := Op.binOp BinOp.eql 3 (Operand.tmp 102) (Operand.tmp 105) 3, type := 4, pos := "aff.go:61", after := #[{ on := 0, ground := Ground.data }, { on := 3, ground := Ground.data }], guard := none }) (v := ?vq69x) rfl (by kernel_rfl) (by kernel_rfl) (by kernel_rfl) (fun _ _ _ h => h) (Or.inl ⟨by rfl, ?hyq69x⟩) (by assumption) ?restq69x
            case hyq69x =>
              intro w hSw
              (try dsimp only at hSw)
              go_simp
              all_goals (with_reducible rfl)
            try simp only [Act.put, List.setIfInBounds_toArray, List.set_cons_zero, List.set_cons_succ]
            refine wpAnyH_take (i := 5) (oi := { dst := some 107, op := Op.move (Operand.tmp 106), type := 4, pos := "aff.go:61", after := #[{ on := 4, ground := Ground.data }], guard := none }) (v := ?vq70x) rfl (by kernel_rfl) (by kernel_rfl) (by kernel_rfl) (fun _ _ _ h => h) (Or.inl ⟨by rfl, ?hyq70x⟩) (by assumption) ?restq70x
            case hyq70x =>
              intro w hSw
              (try dsimp only at hSw)
              go_simp
              all_goals (with_reducible rfl)
            try simp only [Act.put, List.setIfInBounds_toArray, List.set_cons_zero, List.set_cons_succ]
            refine wpAnyH_take (i := 6) (oi := { dst := some 108, op := Op.fieldAddr 27 (Operand.tmp 3) 1, type := 0, pos := "aff.go:61", after := #[{ on := 5, ground := Ground.guard }], guard := some (5, false) }) (v := ?vq71x) rfl (by kernel_rfl) (by kernel_rfl) (by kernel_rfl) (fun _ _ _ h => h) (Or.inl ⟨by rfl, ?hyq71x⟩) (by assumption) ?restq71x
            case hyq71x =>
              intro w hSw
              (try dsimp only at hSw)
              go_simp
              all_goals (with_reducible rfl)
            try simp only [Act.put, List.setIfInBounds_toArray, List.set_cons_zero, List.set_cons_succ]
            refine wpAnyH_take (i := 7) (oi := { dst := some 109, op := Op.load 22 (Operand.tmp 108), type := 22, pos := "aff.go:61", after := #[{ on := 6, ground := Ground.data }, { on := 5, ground := Ground.guard }], guard := some (5, false) }) (v := ?vq72x) rfl (by kernel_rfl) (by kernel_rfl) (by kernel_rfl) (fun _ _ _ h => h) (Or.inl ⟨by rfl, ?hyq72x⟩) (by assumption) ?restq72x
            case hyq72x =>
              intro w hSw
              (try dsimp only at hSw)
              go_simp
              all_goals (with_reducible rfl)
            try simp only [Act.put, List.setIfInBounds_toArray, List.set_cons_zero, List.set_cons_succ]
            refine wpAnyH_take (i := 8) (oi := { dst := some 110, op := Op.move (Operand.tmp 7), type := 3, pos := "aff.go:61", after := #[{ on := 5, ground := Ground.guard }], guard := some (5, false) }) (v := ?vq73x) rfl (by kernel_rfl) (by kernel_rfl) (by kernel_rfl) (fun _ _ _ h => h) (Or.inl ⟨by rfl, ?hyq73x⟩) (by assumption) ?restq73x
            case hyq73x =>
              intro w hSw
              (try dsimp only at hSw)
              go_simp
              all_goals (with_reducible rfl)
            try simp only [Act.put, List.setIfInBounds_toArray, List.set_cons_zero, List.set_cons_succ]
            refine wpAnyH_take (i := 9) (oi := { dst := some 111, op := Op.indexAddr 22 (Operand.tmp 109) (Operand.tmp 110), type := 0, pos := "aff.go:61", after := #[{ on := 7, ground := Ground.data }, { on := 8, ground := Ground.data }, { on := 5, ground := Ground.guard }], guard := some (5, false) }) (v := ?vq74x) rfl (by kernel_rfl) (by kernel_rfl) (by kernel_rfl) (fun _ _ _ h => h) (Or.inl ⟨by rfl, ?hyq74x⟩) (by assumption) ?restq74x
            case hyq74x =>
              intro w hSw
              (try dsimp only at hSw)
              go_simp
              all_goals (with_reducible rfl)
            try simp only [Act.put, List.setIfInBounds_toArray, List.set_cons_zero, List.set_cons_succ]
            refine wpAnyH_take (i := 10) (oi := { dst := some 112, op := Op.fieldAddr 61 (Operand.tmp 111) 0, type := 0, pos := "aff.go:61", after := #[{ on := 9, ground := Ground.data }, { on := 5, ground := Ground.guard }], guard := some (5, false) }) (v := ?vq75x) rfl (by kernel_rfl) (by kernel_rfl) (by kernel_rfl) (fun _ _ _ h => h) (Or.inl ⟨by rfl, ?hyq75x⟩) (by assumption) ?restq75x
            case hyq75x =>
              intro w hSw
              (try dsimp only at hSw)
              go_simp
              all_goals (with_reducible rfl)
            try simp only [Act.put, List.setIfInBounds_toArray, List.set_cons_zero, List.set_cons_succ]
            refine wpAnyH_take (i := 11) (oi := { dst := some 113, op := Op.load 3 (Operand.tmp 112), type := 3, pos := "aff.go:61", after := #[{ on := 10, ground := Ground.data }, { on := 5, ground := Ground.guard }], guard := some (5, false) }) (v := ?vq76x) rfl (by kernel_rfl) (by kernel_rfl) (by kernel_rfl) (fun _ _ _ h => h) (Or.inl ⟨by rfl, ?hyq76x⟩) (by assumption) ?restq76x
            case hyq76x =>
              intro w hSw
              (try dsimp only at hSw)
              go_simp
              all_goals (with_reducible rfl)
            try simp only [Act.put, List.setIfInBounds_toArray, List.set_cons_zero, List.set_cons_succ]
            refine wpAnyH_take (i := 12) (oi := { dst := some 114, op := Op.fieldAddr 27 (Operand.tmp 2) 1, type := 0, pos := "aff.go:61", after := #[{ on := 5, ground := Ground.guard }], guard := some (5, false) }) (v := ?vq77x) rfl (by kernel_rfl) (by kernel_rfl) (by kernel_rfl) (fun _ _ _ h => h) (Or.inl ⟨by rfl, ?hyq77x⟩) (by assumption) ?restq77x
            case hyq77x =>
              intro w hSw
              (try dsimp only at hSw)
              go_simp
              all_goals (with_reducible rfl)
            try simp only [Act.put, List.setIfInBounds_toArray, List.set_cons_zero, List.set_cons_succ]
            refine wpAnyH_take (i := 13) (oi := { dst := some 115, op := Op.load 22 (Operand.tmp 114), type := 22, pos := "aff.go:61", after := #[{ on := 12, ground := Ground.data }, { on := 5, ground := Ground.guard }], guard := some (5, false) }) (v := ?vq78x) rfl (by kernel_rfl) (by kernel_rfl) (by kernel_rfl) (fun _ _ _ h => h) (Or.inl ⟨by rfl, ?hyq78x⟩) (by assumption) ?restq78x
            case hyq78x =>
              intro w hSw
              (try dsimp only at hSw)
              go_simp
              all_goals (with_reducible rfl)
            try simp only [Act.put, List.setIfInBounds_toArray, List.set_cons_zero, List.set_cons_succ]
            refine wpAnyH_take (i := 14) (oi := { dst := some 116, op := Op.move (Operand.tmp 6), type := 3, pos := "aff.go:61", after := #[{ on := 5, ground := Ground.guard }], guard := some (5, false) }) (v := ?vq79x) rfl (by kernel_rfl) (by kernel_rfl) (by kernel_rfl) (fun _ _ _ h => h) (Or.inl ⟨by rfl, ?hyq79x⟩) (by assumption) ?restq79x
            case hyq79x =>
              intro w hSw
              (try dsimp only at hSw)
              go_simp
              all_goals (with_reducible rfl)
            try simp only [Act.put, List.setIfInBounds_toArray, List.set_cons_zero, List.set_cons_succ]
            refine wpAnyH_take (i := 15) (oi := { dst := some 117, op := Op.indexAddr 22 (Operand.tmp 115) (Operand.tmp 116), type := 0, pos := "aff.go:61", after := #[{ on := 13, ground := Ground.data }, { on := 14, ground := Ground.data }, { on := 5, ground := Ground.guard }], guard := some (5, false) }) (v := ?vq80x) rfl (by kernel_rfl) (by kernel_rfl) (by kernel_rfl) (fun _ _ _ h => h) (Or.inl ⟨by rfl, ?hyq80x⟩) (by assumption) ?restq80x
            case hyq80x =>
              intro w hSw
              (try dsimp only at hSw)
              go_simp
              all_goals (with_reducible rfl)
            try simp only [Act.put, List.setIfInBounds_toArray, List.set_cons_zero, List.set_cons_succ]
            refine wpAnyH_take (i := 16) (oi := { dst := some 118, op := Op.fieldAddr 61 (Operand.tmp 117) 0, type := 0, pos := "aff.go:61", after := #[{ on := 15, ground := Ground.data }, { on := 5, ground := Ground.guard }], guard := some (5, false) }) (v := ?vq81x) rfl (by kernel_rfl) (by kernel_rfl) (by kernel_rfl) (fun _ _ _ h => h) (Or.inl ⟨by rfl, ?hyq81x⟩) (by assumption) ?restq81x
            case hyq81x =>
              intro w hSw
              (try dsimp only at hSw)
              go_simp
              all_goals (with_reducible rfl)
            try simp only [Act.put, List.setIfInBounds_toArray, List.set_cons_zero, List.set_cons_succ]
            refine wpAnyH_take (i := 17) (oi := { dst := some 119, op := Op.load 3 (Operand.tmp 118), type := 3, pos := "aff.go:61", after := #[{ on := 16, ground := Ground.data }, { on := 5, ground := Ground.guard }], guard := some (5, false) }) (v := ?vq82x) rfl (by kernel_rfl) (by kernel_rfl) (by kernel_rfl) (fun _ _ _ h => h) (Or.inl ⟨by rfl, ?hyq82x⟩) (by assumption) ?restq82x
            case hyq82x =>
              intro w hSw
              (try dsimp only at hSw)
              go_simp
              all_goals (with_reducible rfl)
            try simp only [Act.put, List.setIfInBounds_toArray, List.set_cons_zero, List.set_cons_succ]
            refine wpAnyH_take (i := 18) (oi := { dst := some 120, op := Op.binOp BinOp.lss 3 (Operand.tmp 113) (Operand.tmp 119) 3, type := 4, pos := "aff.go:61", after := #[{ on := 11, ground := Ground.data }, { on := 17, ground := Ground.data }, { on := 5, ground := Ground.guard }], guard := some (5, false) }) (v := ?vq83x) rfl (by kernel_rfl) (by kernel_rfl) (by kernel_rfl) (fun _ _ _ h => h) (Or.inl ⟨by rfl, ?hyq83x⟩) (by assumption) ?restq83x
            case hyq83x =>
              intro w hSw
              (try dsimp only at hSw)
              go_simp
              all_goals (with_reducible rfl)
            try simp only [Act.put, List.setIfInBounds_toArray, List.set_cons_zero, List.set_cons_succ]
            refine wpAnyH_take (i := 19) (oi := { dst := some 121, op := Op.pick (Operand.tmp 107) (Operand.const (Value.bool true)) (Operand.tmp 120), type := 4, pos := "aff.go:61", after := #[{ on := 5, ground := Ground.data }, { on := 18, ground := Ground.data }], guard := none }) (v := ?vq84x) rfl (by kernel_rfl) (by kernel_rfl) (by kernel_rfl) (fun _ _ _ h => h) (Or.inl ⟨by rfl, ?hyq84x⟩) (by assumption) ?restq84x
            case hyq84x =>
              intro w hSw
              (try dsimp only at hSw)
              go_simp
              all_goals (with_reducible rfl)
            try simp only [Act.put, List.setIfInBounds_toArray, List.set_cons_zero, List.set_cons_succ]
            refine wpAnyH_take (i := 20) (oi := { dst := some 101, op := Op.assign (Operand.tmp 121), type := 4, pos := "aff.go:61", after := #[{ on := 19, ground := Ground.data }, { on := 5, ground := Ground.chain }], guard := none }) (v := ?vq85x) rfl (by kernel_rfl) (by kernel_rfl) (by kernel_rfl) (fun _ _ _ h => h) (Or.inl ⟨by rfl, ?hyq85x⟩) (by assumption) ?restq85x
            case hyq85x =>
              intro w hSw
              (try dsimp only at hSw)
              go_simp
              all_goals (with_reducible rfl)
            try simp only [Act.put, List.setIfInBounds_toArray, List.set_cons_zero, List.set_cons_succ]
            refine wpAnyH_done (by kernel_rfl) ?_ _
            go_wp2_with fail
            refine wp_region_held_drew (S := fun w' => w'.cell? ⟨w.heap.size, 1, none⟩ = some (.slice (some ⟨ga, oa, none⟩) va.n va.c) ∧ w'.cell? ⟨w.heap.size + 1, 1, none⟩ = some (.slice (some ⟨gb, ob, none⟩) vb.n vb.c) ∧ w'.cell? ⟨ga, oa + i * 4, none⟩ = some (.int .i64 x.v) ∧ w'.cell? ⟨ga, oa + i * 4 + 1, none⟩ = some (.bool x.r.s) ∧ w'.cell? ⟨ga, oa + i * 4 + 2, none⟩ = some (.slice x.r.A x.r.n x.r.c) ∧ w'.cell? ⟨ga, oa + i * 4 + 3, none⟩ = some (.slice x.r.B x.r.m x.r.d) ∧ w'.cell? ⟨gb, ob + j * 4, none⟩ = some (.int .i64 y.v) ∧ w'.cell? ⟨gb, ob + j * 4 + 1, none⟩ = some (.bool y.r.s) ∧ w'.cell? ⟨gb, ob + j * 4 + 2, none⟩ = some (.slice y.r.A y.r.n y.r.c) ∧ w'.cell? ⟨gb, ob + j * 4 + 3, none⟩ = some (.slice y.r.B y.r.m y.r.d)) (by kernel_rfl) ?_ (fun hHeld => ?_)
            · (try dsimp only)
              go_keep
            refine wpAnyH_take (i := 0) (oi := { dst := some 122, op := Op.fieldAddr 27 (Operand.tmp 5) 1, type := 0, pos := "aff.go:62", after := #[], guard := none }) (v := ?vq51x) rfl (by kernel_rfl) (by kernel_rfl) (by kernel_rfl) (fun _ _ _ h => h) (Or.inl ⟨by rfl, ?hyq51x⟩) (by assumption) ?restq51x
            case hyq51x =>
              intro w hSw
              (try dsimp only at hSw)
              go_simp
              all_goals (with_reducible rfl)
            try simp only [Act.put, List.setIfInBounds_toArray, List.set_cons_zero, List.set_cons_succ]
            refine wpAnyH_take (i := 2) (oi := { dst := some 124, op := Op.fieldAddr 27 (Operand.tmp 3) 1, type := 0, pos := "aff.go:62", after := #[], guard := none }) (v := ?vq52x) rfl (by kernel_rfl) (by kernel_rfl) (by kernel_rfl) (fun _ _ _ h => h) (Or.inl ⟨by rfl, ?hyq52x⟩) (by assumption) ?restq52x
            case hyq52x =>
              intro w hSw
              (try dsimp only at hSw)
              go_simp
              all_goals (with_reducible rfl)
            try simp only [Act.put, List.setIfInBounds_toArray, List.set_cons_zero, List.set_cons_succ]
            refine wpAnyH_take (i := 3) (oi := { dst := some 125, op := Op.load 22 (Operand.tmp 124), type := 22, pos := "aff.go:62", after := #[{ on := 2, ground := Ground.data }], guard := none }) (v := ?vq53x) rfl (by kernel_rfl) (by kernel_rfl) (by kernel_rfl) (fun _ _ _ h => h) (Or.inl ⟨by rfl, ?hyq53x⟩) (by assumption) ?restq53x
            case hyq53x =>
              intro w hSw
              (try dsimp only at hSw)
              go_simp
              all_goals (with_reducible rfl)
            try simp only [Act.put, List.setIfInBounds_toArray, List.set_cons_zero, List.set_cons_succ]
            refine wpAnyH_take (i := 4) (oi := { dst := some 126, op := Op.move (Operand.tmp 7), type := 3, pos := "aff.go:62", after := #[], guard := none }) (v := ?vq54x) rfl (by kernel_rfl) (by kernel_rfl) (by kernel_rfl) (fun _ _ _ h => h) (Or.inl ⟨by rfl, ?hyq54x⟩) (by assumption) ?restq54x
            case hyq54x =>
              intro w hSw
              (try dsimp only at hSw)
              go_simp
              all_goals (with_reducible rfl)
            try simp only [Act.put, List.setIfInBounds_toArray, List.set_cons_zero, List.set_cons_succ]
            refine wpAnyH_take (i := 5) (oi := { dst := some 127, op := Op.indexAddr 22 (Operand.tmp 125) (Operand.tmp 126), type := 0, pos := "aff.go:62", after := #[{ on := 3, ground := Ground.data }, { on := 4, ground := Ground.data }], guard := none }) (v := ?vq55x) rfl (by kernel_rfl) (by kernel_rfl) (by kernel_rfl) (fun _ _ _ h => h) (Or.inl ⟨by rfl, ?hyq55x⟩) (by assumption) ?restq55x
            case hyq55x =>
              intro w hSw
              (try dsimp only at hSw)
              go_simp
              all_goals (with_reducible rfl)
            try simp only [Act.put, List.setIfInBounds_toArray, List.set_cons_zero, List.set_cons_succ]
            refine wpAnyH_take (i := 6) (oi := { dst := some 128, op := Op.fieldAddr 61 (Operand.tmp 127) 0, type := 0, pos := "aff.go:62", after := #[{ on := 5, ground := Ground.data }], guard := none }) (v := ?vq56x) rfl (by kernel_rfl) (by kernel_rfl) (by kernel_rfl) (fun _ _ _ h => h) (Or.inl ⟨by rfl, ?hyq56x⟩) (by assumption) ?restq56x
            case hyq56x =>
              intro w hSw
              (try dsimp only at hSw)
              go_simp
              all_goals (with_reducible rfl)
            try simp only [Act.put, List.setIfInBounds_toArray, List.set_cons_zero, List.set_cons_succ]
            refine wpAnyH_take (i := 7) (oi := { dst := some 129, op := Op.load 3 (Operand.tmp 128), type := 3, pos := "aff.go:62", after := #[{ on := 6, ground := Ground.data }], guard := none }) (v := ?vq57x) rfl (by kernel_rfl) (by kernel_rfl) (by kernel_rfl) (fun _ _ _ h => h) (Or.inl ⟨by rfl, ?hyq57x⟩) (by assumption) ?restq57x
            case hyq57x =>
              intro w hSw
              (try dsimp only at hSw)
              go_simp
              all_goals (with_reducible rfl)
            try simp only [Act.put, List.setIfInBounds_toArray, List.set_cons_zero, List.set_cons_succ]
            refine wpAnyH_take (i := 8) (oi := { dst := some 130, op := Op.fieldAddr 27 (Operand.tmp 3) 1, type := 0, pos := "aff.go:62", after := #[], guard := none }) (v := ?vq58x) rfl (by kernel_rfl) (by kernel_rfl) (by kernel_rfl) (fun _ _ _ h => h) (Or.inl ⟨by rfl, ?hyq58x⟩) (by assumption) ?restq58x
            case hyq58x =>
              intro w hSw
              (try dsimp only at hSw)
              go_simp
              all_goals (with_reducible rfl)
            try simp only [Act.put, List.setIfInBounds_toArray, List.set_cons_zero, List.set_cons_succ]
            refine wpAnyH_take (i := 9) (oi := { dst := some 131, op := Op.load 22 (Operand.tmp 130), type := 22, pos := "aff.go:62", after := #[{ on := 8, ground := Ground.data }], guard := none }) (v := ?vq59x) rfl (by kernel_rfl) (by kernel_rfl) (by kernel_rfl) (fun _ _ _ h => h) (Or.inl ⟨by rfl, ?hyq59x⟩) (by assumption) ?restq59x
            case hyq59x =>
              intro w hSw
              (try dsimp only at hSw)
              go_simp
              all_goals (with_reducible rfl)
            try simp only [Act.put, List.setIfInBounds_toArray, List.set_cons_zero, List.set_cons_succ]
            refine wpAnyH_take (i := 10) (oi := { dst := some 132, op := Op.move (Operand.tmp 7), type := 3, pos := "aff.go:62", after := #[], guard := none }) (v := ?vq60x) rfl (by kernel_rfl) (by kernel_rfl) (by kernel_rfl) (fun _ _ _ h => h) (Or.inl ⟨by rfl, ?hyq60x⟩) (by assumption) ?restq60x
            case hyq60x =>
              intro w hSw
              (try dsimp only at hSw)
              go_simp
              all_goals (with_reducible rfl)
            try simp only [Act.put, List.setIfInBounds_toArray, List.set_cons_zero, List.set_cons_succ]
            refine wpAnyH_take (i := 11) (oi := { dst := some 133, op := Op.indexAddr 22 (Operand.tmp 131) (Operand.tmp 132), type := 0, pos := "aff.go:62", after := #[{ on := 9, ground := Ground.data }, { on := 10, ground := Ground.data }], guard := none }) (v := ?vq61x) rfl (by kernel_rfl) (by kernel_rfl) (by kernel_rfl) (fun _ _ _ h => h) (Or.inl ⟨by rfl, ?hyq61x⟩) (by assumption) ?restq61x
            case hyq61x =>
              intro w hSw
              (try dsimp only at hSw)
              go_simp
              all_goals (with_reducible rfl)
            try simp only [Act.put, List.setIfInBounds_toArray, List.set_cons_zero, List.set_cons_succ]
            refine wpAnyH_take (i := 12) (oi := { dst := some 134, op := Op.fieldAddr 61 (Operand.tmp 133) 1, type := 0, pos := "aff.go:62", after := #[{ on := 11, ground := Ground.data }], guard := none }) (v := ?vq62x) rfl (by kernel_rfl) (by kernel_rfl) (by kernel_rfl) (fun _ _ _ h => h) (Or.inl ⟨by rfl, ?hyq62x⟩) (by assumption) ?restq62x
            case hyq62x =>
              intro w hSw
              (try dsimp only at hSw)
              go_simp
              all_goals (with_reducible rfl)
            try simp only [Act.put, List.setIfInBounds_toArray, List.set_cons_zero, List.set_cons_succ]
            refine wpAnyH_take (i := 13) (oi := { dst := some 135, op := Op.load 25 (Operand.tmp 134), type := 25, pos := "aff.go:62", after := #[{ on := 12, ground := Ground.data }], guard := none }) (v := ?vq63x) rfl (by kernel_rfl) (by kernel_rfl) (by kernel_rfl) (fun _ _ _ h => h) (Or.inl ⟨by rfl, ?hyq63x⟩) (by assumption) ?restq63x
            case hyq63x =>
              intro w hSw
              (try dsimp only at hSw)
              go_simp
              all_goals (with_reducible rfl)
            try simp only [Act.put, List.setIfInBounds_toArray, List.set_cons_zero, List.set_cons_succ]
            refine wpAnyH_ready (rs := [1]) (by kernel_rfl) (by simp) ?_
            refine AllReadyH.cons (o := { dst := some 123, op := Op.load 22 (Operand.tmp 122), type := 22, pos := "aff.go:62", after := #[{ on := 0, ground := Ground.data }], guard := none }) rfl (fun K hK => ?_) AllReadyH.nil
            try go_simp
            try go_wp2_with fail
            refine hK.out _ _ ?_ (fun hHeld => ?_)
            · (try dsimp only)
              go_keep
            clear hK K
            try simp only [Act.put, List.setIfInBounds_toArray, List.set_cons_zero, List.set_cons_succ]
            refine wpAnyH_ready (rs := [14]) (by kernel_rfl) (by simp) ?_
            refine AllReadyH.cons (o := { dst := some 136, op := Op.call { callee := Callee.value (Operand.func 36), args := #[Operand.tmp 123, Operand.tmp 129, Operand.tmp 135], argTypes := #[22, 3, 25] }, type := 22, pos := "aff.go:62", after := #[{ on := 1, ground := Ground.data }, { on := 7, ground := Ground.data }, { on := 13, ground := Ground.data }], guard := none }) rfl (fun K hK => ?_) AllReadyH.nil
            try go_simp
            go_at_call 36
            refine (lay_c R p e wc.heap.size ls D y.v y.r Q.2 _ (HIN.out.gr.below (bel_n wr 3)) ((HYR.out _ (bel_n wr 3)).more (by omega)) (by omega) (Nat.le_trans HIN.out.sz.1 ((bel_n wr 3)).size)).mono ?_
            rintro ee w4 ⟨R2, c2, p2, ls2, rfl, hp2, hg2, hb, _, _⟩
            have hk := kept_lo (kept_below (bel_n wr 3) HIN.out.sz) hb
            clear a0 a1 a2 a3 a4 b0 b1 b2 b3 b4 x0 x1 x2 x3 y0 y1 y2 y3 s0 s1 s2 s3 s4 t0 t1 t2 t3 t4
            obtain ⟨a0, a1, a2, a3, a4⟩ := (HALL0.out _ hk).1.facts
            obtain ⟨b0, b1, b2, b3, b4⟩ := (HALL0.out _ hk).2.1.facts
            rw [HVA.out] at a1
            obtain ⟨x0, x1, x2, x3⟩ := HXC.out _ hk
            rw [HVB.out] at b1
            obtain ⟨y0, y1, y2, y3⟩ := HYC.out _ hk
            obtain ⟨s0, s1, s2, s3, s4⟩ := ((HBEL.out _ (bel_n wr 3)).at hb HX0.out.lt).facts
            obtain ⟨t0, t1, t2, t3, t4⟩ := ((HBEL.out _ (bel_n wr 3)).at hb HX0.out.lt).thaw
            have HG4 := Lib.hid hg2
            have HB4 := Lib.hid (And.intro hk (And.intro (bel_n wr 3) hb))
            clear hb hk hg2
            try go_wp2_with fail
            refine hK.out _ _ ?_ (fun hHeld => ?_)
            · (try dsimp only)
              go_keep
            clear hK K
            try simp only [Act.put, List.setIfInBounds_toArray, List.set_cons_zero, List.set_cons_succ]
            refine wpAnyH_take (i := 15) (oi := { dst := some 137, op := Op.fieldAddr 27 (Operand.tmp 5) 1, type := 0, pos := "aff.go:62", after := #[{ on := 0, ground := Ground.phase }, { on := 1, ground := Ground.phase }, { on := 2, ground := Ground.phase }, { on := 3, ground := Ground.phase }, { on := 4, ground := Ground.phase }, { on := 5, ground := Ground.phase }, { on := 6, ground := Ground.phase }, { on := 7, ground := Ground.phase }, { on := 8, ground := Ground.phase }, { on := 9, ground := Ground.phase }, { on := 10, ground := Ground.phase }, { on := 11, ground := Ground.phase }, { on := 12, ground := Ground.phase }, { on := 13, ground := Ground.phase }, { on := 14, ground := Ground.phase }], guard := none }) (v := ?vq64x) rfl (by kernel_rfl) (by kernel_rfl) (by kernel_rfl) (fun _ _ _ h => h) (Or.inl ⟨by rfl, ?hyq64x⟩) (by assumption) ?restq64x
            case hyq64x =>
              intro w hSw
              (try dsimp only at hSw)
              go_simp
              all_goals (with_reducible rfl)
            try simp only [Act.put, List.setIfInBounds_toArray, List.set_cons_zero, List.set_cons_succ]
            refine wpAnyH_ready (rs := [16]) (by kernel_rfl) (by simp) ?_
            refine AllReadyH.cons (o := { dst := none, op := Op.store 22 (Operand.tmp 137) (Operand.tmp 136), type := 0, pos := "aff.go:62", after := #[{ on := 15, ground := Ground.data }, { on := 14, ground := Ground.data }, { on := 14, ground := Ground.chain }, { on := 0, ground := Ground.phase }, { on := 1, ground := Ground.phase }, { on := 2, ground := Ground.phase }, { on := 3, ground := Ground.phase }, { on := 4, ground := Ground.phase }, { on := 5, ground := Ground.phase }, { on := 6, ground := Ground.phase }, { on := 7, ground := Ground.phase }, { on := 8, ground := Ground.phase }, { on := 9, ground := Ground.phase }, { on := 10, ground := Ground.phase }, { on := 11, ground := Ground.phase }, { on := 12, ground := Ground.phase }, { on := 13, ground := Ground.phase }, { on := 14, ground := Ground.phase }], guard := none }) rfl (fun K hK => ?_) AllReadyH.nil
            try go_simp
            try go_wp2_with fail
            refine hK.out _ _ ?_ (fun hHeld => ?_)
            · (try dsimp only)
              go_keep
            clear hK K
            try simp only [Act.put, List.setIfInBounds_toArray, List.set_cons_zero, List.set_cons_succ]
            refine wpAnyH_done (by kernel_rfl) ?_ _
            clear a0 a1 a2 a3 a4 b0 b1 b2 b3 b4 x0 x1 x2 x3 y0 y1 y2 y3 s0 s1 s2 s3 s4 t0 t1 t2 t3 t4
            go_wp2
            go_roundw
            case rel => exact ⟨i, j + 1, R2, p2, c2, ls2, _, by omega, by omega, by go_num, by go_num, Lib.hid (RG.step HIN.out (HRB) HG4.out HB4.out.1 HB4.out.2.1 HB4.out.2.2 hp2)⟩
            case measure => simp [intOf]; omega
          · have HRC := Lib.hid (And.intro (rest_eq HP.out.1 HQ.out.1 HP.out.2 HQ.out.2 h1 h2) (show i + j + 1 ≤ i + 1 + (j + 1) by omega))
            go_wp2_with fail
            refine wp_region_held_drew (S := fun w' => w'.cell? ⟨w.heap.size, 1, none⟩ = some (.slice (some ⟨ga, oa, none⟩) va.n va.c) ∧ w'.cell? ⟨w.heap.size + 1, 1, none⟩ = some (.slice (some ⟨gb, ob, none⟩) vb.n vb.c) ∧ w'.cell? ⟨ga, oa + i * 4, none⟩ = some (.int .i64 x.v) ∧ w'.cell? ⟨ga, oa + i * 4 + 1, none⟩ = some (.bool x.r.s) ∧ w'.cell? ⟨ga, oa + i * 4 + 2, none⟩ = some (.slice x.r.A x.r.n x.r.c) ∧ w'.cell? ⟨ga, oa + i * 4 + 3, none⟩ = some (.slice x.r.B x.r.m x.r.d) ∧ w'.cell? ⟨gb, ob + j * 4, none⟩ = some (.int .i64 y.v) ∧ w'.cell? ⟨gb, ob + j * 4 + 1, none⟩ = some (.bool y.r.s) ∧ w'.cell? ⟨gb, ob + j * 4 + 2, none⟩ = some (.slice y.r.A y.r.n y.r.c) ∧ w'.cell? ⟨gb, ob + j * 4 + 3, none⟩ = some (.slice y.r.B y.r.m y.r.d)) (by kernel_rfl) ?_ (fun hHeld => ?_)
            · (try dsimp only)
              go_keep
            refine wpAnyH_take (i := 0) (oi := { dst := some 56, op := Op.move (Operand.tmp 7), type := 3, pos := "aff.go:58", after := #[], guard := none }) (v := ?vq156x) rfl (by kernel_rfl) (by kernel_rfl) (by kernel_rfl) (fun _ _ _ h => h) (Or.inl ⟨by rfl, ?hyq156x⟩) (by assumption) ?restq156x
            case hyq156x =>
              intro w hSw
              (try dsimp only at hSw)
              go_simp
              all_goals (with_reducible rfl)
            try simp only [Act.put, List.setIfInBounds_toArray, List.set_cons_zero, List.set_cons_succ]
            refine wpAnyH_take (i := 1) (oi := { dst := some 57, op := Op.fieldAddr 27 (Operand.tmp 3) 1, type := 0, pos := "aff.go:58", after := #[], guard := none }) (v := ?vq157x) rfl (by kernel_rfl) (by kernel_rfl) (by kernel_rfl) (fun _ _ _ h => h) (Or.inl ⟨by rfl, ?hyq157x⟩) (by assumption) ?restq157x
            case hyq157x =>
              intro w hSw
              (try dsimp only at hSw)
              go_simp
              all_goals (with_reducible rfl)
            try simp only [Act.put, List.setIfInBounds_toArray, List.set_cons_zero, List.set_cons_succ]
            refine wpAnyH_take (i := 2) (oi := { dst := some 58, op := Op.load 22 (Operand.tmp 57), type := 22, pos := "aff.go:58", after := #[{ on := 1, ground := Ground.data }], guard := none }) (v := ?vq158x) rfl (by kernel_rfl) (by kernel_rfl) (by kernel_rfl) (fun _ _ _ h => h) (Or.inl ⟨by rfl, ?hyq158x⟩) (by assumption) ?restq158x
            case hyq158x =>
              intro w hSw
              (try dsimp only at hSw)
              go_simp
              all_goals (with_reducible rfl)
            try simp only [Act.put, List.setIfInBounds_toArray, List.set_cons_zero, List.set_cons_succ]
            refine wpAnyH_take (i := 3) (oi := { dst := some 59, op := Op.call { callee := Callee.builtin Builtin.len, args := #[Operand.tmp 58], argTypes := #[22] }, type := 3, pos := "aff.go:58", after := #[{ on := 2, ground := Ground.data }], guard := none }) (v := ?vq159x) rfl (by kernel_rfl) (by kernel_rfl) (by kernel_rfl) (fun _ _ _ h => h) (Or.inl ⟨by rfl, ?hyq159x⟩) (by assumption) ?restq159x
            case hyq159x =>
              intro w hSw
              (try dsimp only at hSw)
              go_simp
              all_goals (with_reducible rfl)
            try simp only [Act.put, List.setIfInBounds_toArray, List.set_cons_zero, List.set_cons_succ]
            refine wpAnyH_take (i := 4) (oi := { dst := some 60, op := Op.binOp BinOp.eql 3 (Operand.tmp 56) (Operand.tmp 59) 3, type := 4, pos := "aff.go:58", after := #[{ on := 0, ground := Ground.data }, { on := 3, ground := Ground.data }], guard := none }) (v := ?vq160x) rfl (by kernel_rfl) (by kernel_rfl) (by kernel_rfl) (fun _ _ _ h => h) (Or.inl ⟨by rfl, ?hyq160x⟩) (by assumption) ?restq160x
            case hyq160x =>
              intro w hSw
              (try dsimp only at hSw)
              go_simp
              all_goals (with_reducible rfl)
            try simp only [Act.put, List.setIfInBounds_toArray, List.set_cons_zero, List.set_cons_succ]
            refine wpAnyH_take (i := 5) (oi := { dst := some 61, op := Op.move (Operand.tmp 60), type := 4, pos := "aff.go:58", after := #[{ on := 4, ground := Ground.data }], guard := none }) (v := ?vq161x) rfl (by kernel_rfl) (by kernel_rfl) (by kernel_rfl) (fun _ _ _ h => h) (Or.inl ⟨by rfl, ?hyq161x⟩) (by assumption) ?restq161x
            case hyq161x =>
              intro w hSw
              (try dsimp only at hSw)
              go_simp
              all_goals (with_reducible rfl)
            try simp only [Act.put, List.setIfInBounds_toArray, List.set_cons_zero, List.set_cons_succ]
            refine wpAnyH_take (i := 6) (oi := { dst := some 62, op := Op.move (Operand.tmp 6), type := 3, pos := "aff.go:58", after := #[{ on := 5, ground := Ground.guard }], guard := some (5, false) }) (v := ?vq162x) rfl (by kernel_rfl) (by kernel_rfl) (by kernel_rfl) (fun _ _ _ h => h) (Or.inl ⟨by rfl, ?hyq162x⟩) (by assumption) ?restq162x
            case hyq162x =>
              intro w hSw
              (try dsimp only at hSw)
              go_simp
              all_goals (with_reducible rfl)
            try simp only [Act.put, List.setIfInBounds_toArray, List.set_cons_zero, List.set_cons_succ]
            refine wpAnyH_take (i := 7) (oi := { dst := some 63, op := Op.fieldAddr 27 (Operand.tmp 2) 1, type := 0, pos := "aff.go:58", after := #[{ on := 5, ground := Ground.guard }], guard := some (5, false) }) (v := ?vq163x) rfl (by kernel_rfl) (by kernel_rfl) (by kernel_rfl) (fun _ _ _ h => h) (Or.inl ⟨by rfl, ?hyq163x⟩) (by assumption) ?restq163x
            case hyq163x =>
              intro w hSw
              (try dsimp only at hSw)
              go_simp
              all_goals (with_reducible rfl)
            try simp only [Act.put, List.setIfInBounds_toArray, List.set_cons_zero, List.set_cons_succ]
            refine wpAnyH_take (i := 8) (oi := { dst := some 64, op := Op.load 22 (Operand.tmp 63), type := 22, pos := "aff.go:58", after := #[{ on := 7, ground := Ground.data }, { on := 5, ground := Ground.guard }], guard := some (5, false) }) (v := ?vq164x) rfl (by kernel_rfl) (by kernel_rfl) (by kernel_rfl) (fun _ _ _ h => h) (Or.inl ⟨by rfl, ?hyq164x⟩) (by assumption) ?restq164x
            case hyq164x =>
              intro w hSw
              (try dsimp only at hSw)
              go_simp
              all_goals (with_reducible rfl)
            try simp only [Act.put, List.setIfInBounds_toArray, List.set_cons_zero, List.set_cons_succ]
            refine wpAnyH_take (i := 9) (oi := { dst := some 65, op := Op.call { callee := Callee.builtin Builtin.len, args := #[Operand.tmp 64], argTypes := #[22] }, type := 3, pos := "aff.go:58", after := #[{ on := 8, ground := Ground.data }, { on := 5, ground := Ground.guard }], guard := some (5, false) }) (v := ?vq165x) rfl (by kernel_rfl) (by kernel_rfl) (by kernel_rfl) (fun _ _ _ h => h) (Or.inl ⟨by rfl, ?hyq165x⟩) (by assumption) ?restq165x
            case hyq165x =>
              intro w hSw
              (try dsimp only at hSw)
              go_simp
              all_goals (with_reducible rfl)
            try simp only [Act.put, List.setIfInBounds_toArray, List.set_cons_zero, List.set_cons_succ]
            refine wpAnyH_take (i := 10) (oi := { dst := some 66, op := Op.binOp BinOp.lss 3 (Operand.tmp 62) (Operand.tmp 65) 3, type := 4, pos := "aff.go:58", after := #[{ on := 6, ground := Ground.data }, { on := 9, ground := Ground.data }, { on := 5, ground := Ground.guard }], guard := some (5, false) }) (v := ?vq166x) rfl (by kernel_rfl) (by kernel_rfl) (by kernel_rfl) (fun _ _ _ h => h) (Or.inl ⟨by rfl, ?hyq166x⟩) (by assumption) ?restq166x
            case hyq166x =>
              intro w hSw
              (try dsimp only at hSw)
              go_simp
              all_goals (with_reducible rfl)
            try simp only [Act.put, List.setIfInBounds_toArray, List.set_cons_zero, List.set_cons_succ]
            refine wpAnyH_take (i := 11) (oi := { dst := some 67, op := Op.move (Operand.tmp 66), type := 4, pos := "aff.go:58", after := #[{ on := 10, ground := Ground.data }, { on := 5, ground := Ground.chain }, { on := 5, ground := Ground.guard }], guard := some (5, false) }) (v := ?vq167x) rfl (by kernel_rfl) (by kernel_rfl) (by kernel_rfl) (fun _ _ _ h => h) (Or.inl ⟨by rfl, ?hyq167x⟩) (by assumption) ?restq167x
            case hyq167x =>
              intro w hSw
              (try dsimp only at hSw)
              go_simp
              all_goals (with_reducible rfl)
            try simp only [Act.put, List.setIfInBounds_toArray, List.set_cons_zero, List.set_cons_succ]
            refine wpAnyH_take (i := 12) (oi := { dst := some 68, op := Op.fieldAddr 27 (Operand.tmp 2) 1, type := 0, pos := "aff.go:58", after := #[{ on := 11, ground := Ground.guard }], guard := some (11, true) }) (v := ?vq168x) rfl (by kernel_rfl) (by kernel_rfl) (by kernel_rfl) (fun _ _ _ h => h) (Or.inl ⟨by rfl, ?hyq168x⟩) (by assumption) ?restq168x
            case hyq168x =>
              intro w hSw
              (try dsimp only at hSw)
              go_simp
              all_goals (with_reducible rfl)
            try simp only [Act.put, List.setIfInBounds_toArray, List.set_cons_zero, List.set_cons_succ]
            refine wpAnyH_take (i := 13) (oi := { dst := some 69, op := Op.load 22 (Operand.tmp 68), type := 22, pos := "aff.go:58", after := #[{ on := 12, ground := Ground.data }, { on := 11, ground := Ground.guard }], guard := some (11, true) }) (v := ?vq169x) rfl (by kernel_rfl) (by kernel_rfl) (by kernel_rfl) (fun _ _ _ h => h) (Or.inl ⟨by rfl, ?hyq169x⟩) (by assumption) ?restq169x
            case hyq169x =>
              intro w hSw
              (try dsimp only at hSw)
              go_simp
              all_goals (with_reducible rfl)
            try simp only [Act.put, List.setIfInBounds_toArray, List.set_cons_zero, List.set_cons_succ]
            refine wpAnyH_take (i := 14) (oi := { dst := some 70, op := Op.move (Operand.tmp 6), type := 3, pos := "aff.go:58", after := #[{ on := 11, ground := Ground.guard }], guard := some (11, true) }) (v := ?vq170x) rfl (by kernel_rfl) (by kernel_rfl) (by kernel_rfl) (fun _ _ _ h => h) (Or.inl ⟨by rfl, ?hyq170x⟩) (by assumption) ?restq170x
            case hyq170x =>
              intro w hSw
              (try dsimp only at hSw)
              go_simp
              all_goals (with_reducible rfl)
            try simp only [Act.put, List.setIfInBounds_toArray, List.set_cons_zero, List.set_cons_succ]
            refine wpAnyH_take (i := 15) (oi := { dst := some 71, op := Op.indexAddr 22 (Operand.tmp 69) (Operand.tmp 70), type := 0, pos := "aff.go:58", after := #[{ on := 13, ground := Ground.data }, { on := 14, ground := Ground.data }, { on := 11, ground := Ground.guard }], guard := some (11, true) }) (v := ?vq171x) rfl (by kernel_rfl) (by kernel_rfl) (by kernel_rfl) (fun _ _ _ h => h) (Or.inl ⟨by rfl, ?hyq171x⟩) (by assumption) ?restq171x
            case hyq171x =>
              intro w hSw
              (try dsimp only at hSw)
              go_simp
              all_goals (with_reducible rfl)
            try simp only [Act.put, List.setIfInBounds_toArray, List.set_cons_zero, List.set_cons_succ]
            refine wpAnyH_take (i := 16) (oi := { dst := some 72, op := Op.fieldAddr 61 (Operand.tmp 71) 0, type := 0, pos := "aff.go:58", after := #[{ on := 15, ground := Ground.data }, { on := 11, ground := Ground.guard }], guard := some (11, true) }) (v := ?vq172x) rfl (by kernel_rfl) (by kernel_rfl) (by kernel_rfl) (fun _ _ _ h => h) (Or.inl ⟨by rfl, ?hyq172x⟩) (by assumption) ?restq172x
            case hyq172x =>
              intro w hSw
              (try dsimp only at hSw)
              go_simp
              all_goals (with_reducible rfl)
            try simp only [Act.put, List.setIfInBounds_toArray, List.set_cons_zero, List.set_cons_succ]
            refine wpAnyH_take (i := 17) (oi := { dst := some 73, op := Op.load 3 (Operand.tmp 72), type := 3, pos := "aff.go:58", after := #[{ on := 16, ground := Ground.data }, { on := 11, ground := Ground.guard }], guard := some (11, true) }) (v := ?vq173x) rfl (by kernel_rfl) (by kernel_rfl) (by kernel_rfl) (fun _ _ _ h => h) (Or.inl ⟨by rfl, ?hyq173x⟩) (by assumption) ?restq173x
            case hyq173x =>
              intro w hSw
              (try dsimp only at hSw)
              go_simp
              all_goals (with_reducible rfl)
            try simp only [Act.put, List.setIfInBounds_toArray, List.set_cons_zero, List.set_cons_succ]
            refine wpAnyH_take (i := 18) (oi := { dst := some 74, op := Op.fieldAddr 27 (Operand.tmp 3) 1, type := 0, pos := "aff.go:58", after := #[{ on := 11, ground := Ground.guard }], guard := some (11, true) }) (v := ?vq174x) rfl (by kernel_rfl) (by kernel_rfl) (by kernel_rfl) (fun _ _ _ h => h) (Or.inl ⟨by rfl, ?hyq174x⟩) (by assumption) ?restq174x
            case hyq174x =>
              intro w hSw
              (try dsimp only at hSw)
              go_simp
              all_goals (with_reducible rfl)
            try simp only [Act.put, List.setIfInBounds_toArray, List.set_cons_zero, List.set_cons_succ]
            refine wpAnyH_take (i := 19) (oi := { dst := some 75, op := Op.load 22 (Operand.tmp 74), type := 22, pos := "aff.go:58", after := #[{ on := 18, ground := Ground.data }, { on := 11, ground := Ground.guard }], guard := some (11, true) }) (v := ?vq175x) rfl (by kernel_rfl) (by kernel_rfl) (by kernel_rfl) (fun _ _ _ h => h) (Or.inl ⟨by rfl, ?hyq175x⟩) (by assumption) ?restq175x
            case hyq175x =>
              intro w hSw
              (try dsimp only at hSw)
              go_simp
              all_goals (with_reducible rfl)
            try simp only [Act.put, List.setIfInBounds_toArray, List.set_cons_zero, List.set_cons_succ]
            refine wpAnyH_take (i := 20) (oi := { dst := some 76, op := Op.move (Operand.tmp 7), type := 3, pos := "aff.go:58", after := #[{ on := 11, ground := Ground.guard }], guard := some (11, true) }) (v := ?vq176x) rfl (by kernel_rfl) (by kernel_rfl) (by kernel_rfl) (fun _ _ _ h => h) (Or.inl ⟨by rfl, ?hyq176x⟩) (by assumption) ?restq176x
            case hyq176x =>
              intro w hSw
              (try dsimp only at hSw)
              go_simp
              all_goals (with_reducible rfl)
            try simp only [Act.put, List.setIfInBounds_toArray, List.set_cons_zero, List.set_cons_succ]
            refine wpAnyH_take (i := 21) (oi := { dst := some 77, op := Op.indexAddr 22 (Operand.tmp 75) (Operand.tmp 76), type := 0, pos := "aff.go:58", after := #[{ on := 19, ground := Ground.data }, { on := 20, ground := Ground.data }, { on := 11, ground := Ground.guard }], guard := some (11, true) }) (v := ?vq177x) rfl (by kernel_rfl) (by kernel_rfl) (by kernel_rfl) (fun _ _ _ h => h) (Or.inl ⟨by rfl, ?hyq177x⟩) (by assumption) ?restq177x
            case hyq177x =>
              intro w hSw
              (try dsimp only at hSw)
              go_simp
              all_goals (with_reducible rfl)
            try simp only [Act.put, List.setIfInBounds_toArray, List.set_cons_zero, List.set_cons_succ]
            refine wpAnyH_take (i := 22) (oi := { dst := some 78, op := Op.fieldAddr 61 (Operand.tmp 77) 0, type := 0, pos := "aff.go:58", after := #[{ on := 21, ground := Ground.data }, { on := 11, ground := Ground.guard }], guard := some (11, true) }) (v := ?vq178x) rfl (by kernel_rfl) (by kernel_rfl) (by kernel_rfl) (fun _ _ _ h => h) (Or.inl ⟨by rfl, ?hyq178x⟩) (by assumption) ?restq178x
            case hyq178x =>
              intro w hSw
              (try dsimp only at hSw)
              go_simp
              all_goals (with_reducible rfl)
            try simp only [Act.put, List.setIfInBounds_toArray, List.set_cons_zero, List.set_cons_succ]
            refine wpAnyH_take (i := 23) (oi := { dst := some 79, op := Op.load 3 (Operand.tmp 78), type := 3, pos := "aff.go:58", after := #[{ on := 22, ground := Ground.data }, { on := 11, ground := Ground.guard }], guard := some (11, true) }) (v := ?vq179x) rfl (by kernel_rfl) (by kernel_rfl) (by kernel_rfl) (fun _ _ _ h => h) (Or.inl ⟨by rfl, ?hyq179x⟩) (by assumption) ?restq179x
            case hyq179x =>
              intro w hSw
              (try dsimp only at hSw)
              go_simp
              all_goals (with_reducible rfl)
            try simp only [Act.put, List.setIfInBounds_toArray, List.set_cons_zero, List.set_cons_succ]
            refine wpAnyH_take (i := 24) (oi := { dst := some 80, op := Op.binOp BinOp.lss 3 (Operand.tmp 73) (Operand.tmp 79) 3, type := 4, pos := "aff.go:58", after := #[{ on := 17, ground := Ground.data }, { on := 23, ground := Ground.data }, { on := 11, ground := Ground.guard }], guard := some (11, true) }) (v := ?vq180x) rfl (by kernel_rfl) (by kernel_rfl) (by kernel_rfl) (fun _ _ _ h => h) (Or.inl ⟨by rfl, ?hyq180x⟩) (by assumption) ?restq180x
            case hyq180x =>
              intro w hSw
              (try dsimp only at hSw)
              go_simp
              all_goals (with_reducible rfl)
            try simp only [Act.put, List.setIfInBounds_toArray, List.set_cons_zero, List.set_cons_succ]
            refine wpAnyH_take (i := 25) (oi := { dst := some 81, op := Op.pick (Operand.tmp 67) (Operand.tmp 80) (Operand.const (Value.bool false)), type := 4, pos := "aff.go:58", after := #[{ on := 11, ground := Ground.data }, { on := 24, ground := Ground.data }, { on := 5, ground := Ground.guard }], guard := some (5, false) }) (v := ?vq181x) rfl (by kernel_rfl) (by kernel_rfl) (by kernel_rfl) (fun _ _ _ h => h) (Or.inl ⟨by rfl, ?hyq181x⟩) (by assumption) ?restq181x
            case hyq181x =>
              intro w hSw
              (try dsimp only at hSw)
              go_simp
              all_goals (with_reducible rfl)
            try simp only [Act.put, List.setIfInBounds_toArray, List.set_cons_zero, List.set_cons_succ]
            refine wpAnyH_take (i := 26) (oi := { dst := some 82, op := Op.pick (Operand.tmp 61) (Operand.const (Value.bool true)) (Operand.tmp 81), type := 4, pos := "aff.go:58", after := #[{ on := 5, ground := Ground.data }, { on := 25, ground := Ground.data }], guard := none }) (v := ?vq182x) rfl (by kernel_rfl) (by kernel_rfl) (by kernel_rfl) (fun _ _ _ h => h) (Or.inl ⟨by rfl, ?hyq182x⟩) (by assumption) ?restq182x
            case hyq182x =>
              intro w hSw
              (try dsimp only at hSw)
              go_simp
              all_goals (with_reducible rfl)
            try simp only [Act.put, List.setIfInBounds_toArray, List.set_cons_zero, List.set_cons_succ]
            refine wpAnyH_take (i := 27) (oi := { dst := some 55, op := Op.assign (Operand.tmp 82), type := 4, pos := "aff.go:58", after := #[{ on := 26, ground := Ground.data }, { on := 11, ground := Ground.chain }], guard := none }) (v := ?vq183x) rfl (by kernel_rfl) (by kernel_rfl) (by kernel_rfl) (fun _ _ _ h => h) (Or.inl ⟨by rfl, ?hyq183x⟩) (by assumption) ?restq183x
            case hyq183x =>
              intro w hSw
              (try dsimp only at hSw)
              go_simp
              all_goals (with_reducible rfl)
            try simp only [Act.put, List.setIfInBounds_toArray, List.set_cons_zero, List.set_cons_succ]
            refine wpAnyH_done (by kernel_rfl) ?_ _
            go_wp2_with fail
            refine wp_region_held_drew (S := fun w' => w'.cell? ⟨w.heap.size, 1, none⟩ = some (.slice (some ⟨ga, oa, none⟩) va.n va.c) ∧ w'.cell? ⟨w.heap.size + 1, 1, none⟩ = some (.slice (some ⟨gb, ob, none⟩) vb.n vb.c) ∧ w'.cell? ⟨ga, oa + i * 4, none⟩ = some (.int .i64 x.v) ∧ w'.cell? ⟨ga, oa + i * 4 + 1, none⟩ = some (.bool x.r.s) ∧ w'.cell? ⟨ga, oa + i * 4 + 2, none⟩ = some (.slice x.r.A x.r.n x.r.c) ∧ w'.cell? ⟨ga, oa + i * 4 + 3, none⟩ = some (.slice x.r.B x.r.m x.r.d) ∧ w'.cell? ⟨gb, ob + j * 4, none⟩ = some (.int .i64 y.v) ∧ w'.cell? ⟨gb, ob + j * 4 + 1, none⟩ = some (.bool y.r.s) ∧ w'.cell? ⟨gb, ob + j * 4 + 2, none⟩ = some (.slice y.r.A y.r.n y.r.c) ∧ w'.cell? ⟨gb, ob + j * 4 + 3, none⟩ = some (.slice y.r.B y.r.m y.r.d)) (by kernel_rfl) ?_ (fun hHeld => ?_)
            · (try dsimp only)
              go_keep
            refine wpAnyH_take (i := 0) (oi := { dst := some 102, op := Op.move (Operand.tmp 6), type := 3, pos := "aff.go:61", after := #[], guard := none }) (v := ?vq135x) rfl (by kernel_rfl) (by kernel_rfl) (by kernel_rfl) (fun _ _ _ h => h) (Or.inl ⟨by rfl, ?hyq135x⟩) (by assumption) ?restq135x
            case hyq135x =>
              intro w hSw
              (try dsimp only at hSw)
              go_simp
              all_goals (with_reducible rfl)
            try simp only [Act.put, List.setIfInBounds_toArray, List.set_cons_zero, List.set_cons_succ]
            refine wpAnyH_take (i := 1) (oi := { dst := some 103, op := Op.fieldAddr 27 (Operand.tmp 2) 1, type := 0, pos := "aff.go:61", after := #[], guard := none }) (v := ?vq136x) rfl (by kernel_rfl) (by kernel_rfl) (by kernel_rfl) (fun _ _ _ h => h) (Or.inl ⟨by rfl, ?hyq136x⟩) (by assumption) ?restq136x
            case hyq136x =>
              intro w hSw
              (try dsimp only at hSw)
              go_simp
              all_goals (with_reducible rfl)
            try simp only [Act.put, List.setIfInBounds_toArray, List.set_cons_zero, List.set_cons_succ]
            refine wpAnyH_take (i := 2) (oi := { dst := some 104, op := Op.load 22 (Operand.tmp 103), type := 22, pos := "aff.go:61", after := #[{ on := 1, ground := Ground.data }], guard := none }) (v := ?vq137x) rfl (by kernel_rfl) (by kernel_rfl) (by kernel_rfl) (fun _ _ _ h => h) (Or.inl ⟨by rfl, ?hyq137x⟩) (by assumption) ?restq137x
            case hyq137x =>
              intro w hSw
              (try dsimp only at hSw)
              go_simp
              all_goals (with_reducible rfl)
            try simp only [Act.put, List.setIfInBounds_toArray, List.set_cons_zero, List.set_cons_succ]
            refine wpAnyH_take (i := 3) (oi := { dst := some 105, op := Op.call { callee := Callee.builtin Builtin.len, args := #[Operand.tmp 104], argTypes := #[22] }, type := 3, pos := "aff.go:61", after := #[{ on := 2, ground := Ground.data }], guard := none }) (v := ?vq138x) rfl (by kernel_rfl) (by kernel_rfl) (by kernel_rfl) (fun _ _ _ h => h) (Or.inl ⟨by rfl, ?hyq138x⟩) (by assumption) ?restq138x
            case hyq138x =>
              intro w hSw
              (try dsimp only at hSw)
              go_simp
              all_goals (with_reducible rfl)
            try simp only [Act.put, List.setIfInBounds_toArray, List.set_cons_zero, List.set_cons_succ]
            refine wpAnyH_take (i := 4) (oi := { dst := some 106, op := Op.binOp BinOp.eql 3 (Operand.tmp 102) (Operand.tmp 105) 3, type := 4, pos := "aff.go:61", after := #[{ on := 0, ground := Ground.data }, { on := 3, ground := Ground.data }], guard := none }) (v := ?vq139x) rfl (by kernel_rfl) (by kernel_rfl) (by kernel_rfl) (fun _ _ _ h => h) (Or.inl ⟨by rfl, ?hyq139x⟩) (by assumption) ?restq139x
            case hyq139x =>
              intro w hSw
              (try dsimp only at hSw)
              go_simp
              all_goals (with_reducible rfl)
            try simp only [Act.put, List.setIfInBounds_toArray, List.set_cons_zero, List.set_cons_succ]
            refine wpAnyH_take (i := 5) (oi := { dst := some 107, op := Op.move (Operand.tmp 106), type := 4, pos := "aff.go:61", after := #[{ on := 4, ground := Ground.data }], guard := none }) (v := ?vq140x) rfl (by kernel_rfl) (by kernel_rfl) (by kernel_rfl) (fun _ _ _ h => h) (Or.inl ⟨by rfl, ?hyq140x⟩) (by assumption) ?restq140x
            case hyq140x =>
              intro w hSw
              (try dsimp only at hSw)
              go_simp
              all_goals (with_reducible rfl)
            try simp only [Act.put, List.setIfInBounds_toArray, List.set_cons_zero, List.set_cons_succ]
            refine wpAnyH_take (i := 6) (oi := { dst := some 108, op := Op.fieldAddr 27 (Operand.tmp 3) 1, type := 0, pos := "aff.go:61", after := #[{ on := 5, ground := Ground.guard }], guard := some (5, false) }) (v := ?vq141x) rfl (by kernel_rfl) (by kernel_rfl) (by kernel_rfl) (fun _ _ _ h => h) (Or.inl ⟨by rfl, ?hyq141x⟩) (by assumption) ?restq141x
            case hyq141x =>
              intro w hSw
              (try dsimp only at hSw)
              go_simp
              all_goals (with_reducible rfl)
            try simp only [Act.put, List.setIfInBounds_toArray, List.set_cons_zero, List.set_cons_succ]
            refine wpAnyH_take (i := 7) (oi := { dst := some 109, op := Op.load 22 (Operand.tmp 108), type := 22, pos := "aff.go:61", after := #[{ on := 6, ground := Ground.data }, { on := 5, ground := Ground.guard }], guard := some (5, false) }) (v := ?vq142x) rfl (by kernel_rfl) (by kernel_rfl) (by kernel_rfl) (fun _ _ _ h => h) (Or.inl ⟨by rfl, ?hyq142x⟩) (by assumption) ?restq142x
            case hyq142x =>
              intro w hSw
              (try dsimp only at hSw)
              go_simp
              all_goals (with_reducible rfl)
            try simp only [Act.put, List.setIfInBounds_toArray, List.set_cons_zero, List.set_cons_succ]
            refine wpAnyH_take (i := 8) (oi := { dst := some 110, op := Op.move (Operand.tmp 7), type := 3, pos := "aff.go:61", after := #[{ on := 5, ground := Ground.guard }], guard := some (5, false) }) (v := ?vq143x) rfl (by kernel_rfl) (by kernel_rfl) (by kernel_rfl) (fun _ _ _ h => h) (Or.inl ⟨by rfl, ?hyq143x⟩) (by assumption) ?restq143x
            case hyq143x =>
              intro w hSw
              (try dsimp only at hSw)
              go_simp
              all_goals (with_reducible rfl)
            try simp only [Act.put, List.setIfInBounds_toArray, List.set_cons_zero, List.set_cons_succ]
            refine wpAnyH_take (i := 9) (oi := { dst := some 111, op := Op.indexAddr 22 (Operand.tmp 109) (Operand.tmp 110), type := 0, pos := "aff.go:61", after := #[{ on := 7, ground := Ground.data }, { on := 8, ground := Ground.data }, { on := 5, ground := Ground.guard }], guard := some (5, false) }) (v := ?vq144x) rfl (by kernel_rfl) (by kernel_rfl) (by kernel_rfl) (fun _ _ _ h => h) (Or.inl ⟨by rfl, ?hyq144x⟩) (by assumption) ?restq144x
            case hyq144x =>
              intro w hSw
              (try dsimp only at hSw)
              go_simp
              all_goals (with_reducible rfl)
            try simp only [Act.put, List.setIfInBounds_toArray, List.set_cons_zero, List.set_cons_succ]
            refine wpAnyH_take (i := 10) (oi := { dst := some 112, op := Op.fieldAddr 61 (Operand.tmp 111) 0, type := 0, pos := "aff.go:61", after := #[{ on := 9, ground := Ground.data }, { on := 5, ground := Ground.guard }], guard := some (5, false) }) (v := ?vq145x) rfl (by kernel_rfl) (by kernel_rfl) (by kernel_rfl) (fun _ _ _ h => h) (Or.inl ⟨by rfl, ?hyq145x⟩) (by assumption) ?restq145x
            case hyq145x =>
              intro w hSw
              (try dsimp only at hSw)
              go_simp
              all_goals (with_reducible rfl)
            try simp only [Act.put, List.setIfInBounds_toArray, List.set_cons_zero, List.set_cons_succ]
            refine wpAnyH_take (i := 11) (oi := { dst := some 113, op := Op.load 3 (Operand.tmp 112), type := 3, pos := "aff.go:61", after := #[{ on := 10, ground := Ground.data }, { on := 5, ground := Ground.guard }], guard := some (5, false) }) (v := ?vq146x) rfl (by kernel_rfl) (by kernel_rfl) (by kernel_rfl) (fun _ _ _ h => h) (Or.inl ⟨by rfl, ?hyq146x⟩) (by assumption) ?restq146x
            case hyq146x =>
              intro w hSw
              (try dsimp only at hSw)
              go_simp
              all_goals (with_reducible rfl)
            try simp only [Act.put, List.setIfInBounds_toArray, List.set_cons_zero, List.set_cons_succ]
            refine wpAnyH_take (i := 12) (oi := { dst := some 114, op := Op.fieldAddr 27 (Operand.tmp 2) 1, type := 0, pos := "aff.go:61", after := #[{ on := 5, ground := Ground.guard }], guard := some (5, false) }) (v := ?vq147x) rfl (by kernel_rfl) (by kernel_rfl) (by kernel_rfl) (fun _ _ _ h => h) (Or.inl ⟨by rfl, ?hyq147x⟩) (by assumption) ?restq147x
            case hyq147x =>
              intro w hSw
              (try dsimp only at hSw)
              go_simp
              all_goals (with_reducible rfl)
            try simp only [Act.put, List.setIfInBounds_toArray, List.set_cons_zero, List.set_cons_succ]
            refine wpAnyH_take (i := 13) (oi := { dst := some 115, op := Op.load 22 (Operand.tmp 114), type := 22, pos := "aff.go:61", after := #[{ on := 12, ground := Ground.data }, { on := 5, ground := Ground.guard }], guard := some (5, false) }) (v := ?vq148x) rfl (by kernel_rfl) (by kernel_rfl) (by kernel_rfl) (fun _ _ _ h => h) (Or.inl ⟨by rfl, ?hyq148x⟩) (by assumption) ?restq148x
            case hyq148x =>
              intro w hSw
              (try dsimp only at hSw)
              go_simp
              all_goals (with_reducible rfl)
            try simp only [Act.put, List.setIfInBounds_toArray, List.set_cons_zero, List.set_cons_succ]
            refine wpAnyH_take (i := 14) (oi := { dst := some 116, op := Op.move (Operand.tmp 6), type := 3, pos := "aff.go:61", after := #[{ on := 5, ground := Ground.guard }], guard := some (5, false) }) (v := ?vq149x) rfl (by kernel_rfl) (by kernel_rfl) (by kernel_rfl) (fun _ _ _ h => h) (Or.inl ⟨by rfl, ?hyq149x⟩) (by assumption) ?restq149x
            case hyq149x =>
              intro w hSw
              (try dsimp only at hSw)
              go_simp
              all_goals (with_reducible rfl)
            try simp only [Act.put, List.setIfInBounds_toArray, List.set_cons_zero, List.set_cons_succ]
            refine wpAnyH_take (i := 15) (oi := { dst := some 117, op := Op.indexAddr 22 (Operand.tmp 115) (Operand.tmp 116), type := 0, pos := "aff.go:61", after := #[{ on := 13, ground := Ground.data }, { on := 14, ground := Ground.data }, { on := 5, ground := Ground.guard }], guard := some (5, false) }) (v := ?vq150x) rfl (by kernel_rfl) (by kernel_rfl) (by kernel_rfl) (fun _ _ _ h => h) (Or.inl ⟨by rfl, ?hyq150x⟩) (by assumption) ?restq150x
            case hyq150x =>
              intro w hSw
              (try dsimp only at hSw)
              go_simp
              all_goals (with_reducible rfl)
            try simp only [Act.put, List.setIfInBounds_toArray, List.set_cons_zero, List.set_cons_succ]
            refine wpAnyH_take (i := 16) (oi := { dst := some 118, op := Op.fieldAddr 61 (Operand.tmp 117) 0, type := 0, pos := "aff.go:61", after := #[{ on := 15, ground := Ground.data }, { on := 5, ground := Ground.guard }], guard := some (5, false) }) (v := ?vq151x) rfl (by kernel_rfl) (by kernel_rfl) (by kernel_rfl) (fun _ _ _ h => h) (Or.inl ⟨by rfl, ?hyq151x⟩) (by assumption) ?restq151x
            case hyq151x =>
              intro w hSw
              (try dsimp only at hSw)
              go_simp
              all_goals (with_reducible rfl)
            try simp only [Act.put, List.setIfInBounds_toArray, List.set_cons_zero, List.set_cons_succ]
            refine wpAnyH_take (i := 17) (oi := { dst := some 119, op := Op.load 3 (Operand.tmp 118), type := 3, pos := "aff.go:61", after := #[{ on := 16, ground := Ground.data }, { on := 5, ground := Ground.guard }], guard := some (5, false) }) (v := ?vq152x) rfl (by kernel_rfl) (by kernel_rfl) (by kernel_rfl) (fun _ _ _ h => h) (Or.inl ⟨by rfl, ?hyq152x⟩) (by assumption) ?restq152x
            case hyq152x =>
              intro w hSw
              (try dsimp only at hSw)
              go_simp
              all_goals (with_reducible rfl)
            try simp only [Act.put, List.setIfInBounds_toArray, List.set_cons_zero, List.set_cons_succ]
            refine wpAnyH_take (i := 18) (oi := { dst := some 120, op := Op.binOp BinOp.lss 3 (Operand.tmp 113) (Operand.tmp 119) 3, type := 4, pos := "aff.go:61", after := #[{ on := 11, ground := Ground.data }, { on := 17, ground := Ground.data }, { on := 5, ground := Ground.guard }], guard := some (5, false) }) (v := ?vq153x) rfl (by kernel_rfl) (by kernel_rfl) (by kernel_rfl) (fun _ _ _ h => h) (Or.inl ⟨by rfl, ?hyq153x⟩) (by assumption) ?restq153x
            case hyq153x =>
              intro w hSw
              (try dsimp only at hSw)
              go_simp
              all_goals (with_reducible rfl)
            try simp only [Act.put, List.setIfInBounds_toArray, List.set_cons_zero, List.set_cons_succ]
            refine wpAnyH_take (i := 19) (oi := { dst := some 121, op := Op.pick (Operand.tmp 107) (Operand.const (Value.bool true)) (Operand.tmp 120), type := 4, pos := "aff.go:61", after := #[{ on := 5, ground := Ground.data }, { on := 18, ground := Ground.data }], guard := none }) (v := ?vq154x) rfl (by kernel_rfl) (by kernel_rfl) (by kernel_rfl) (fun _ _ _ h => h) (Or.inl ⟨by rfl, ?hyq154x⟩) (by assumption) ?restq154x
            case hyq154x =>
              intro w hSw
              (try dsimp only at hSw)
              go_simp
              all_goals (with_reducible rfl)
            try simp only [Act.put, List.setIfInBounds_toArray, List.set_cons_zero, List.set_cons_succ]
            refine wpAnyH_take (i := 20) (oi := { dst := some 101, op := Op.assign (Operand.tmp 121), type := 4, pos := "aff.go:61", after := #[{ on := 19, ground := Ground.data }, { on := 5, ground := Ground.chain }], guard := none }) (v := ?vq155x) rfl (by kernel_rfl) (by kernel_rfl) (by kernel_rfl) (fun _ _ _ h => h) (Or.inl ⟨by rfl, ?hyq155x⟩) (by assumption) ?restq155x
            case hyq155x =>
              intro w hSw
              (try dsimp only at hSw)
              go_simp
              all_goals (with_reducible rfl)
            try simp only [Act.put, List.setIfInBounds_toArray, List.set_cons_zero, List.set_cons_succ]
            refine wpAnyH_done (by kernel_rfl) ?_ _
            go_wp2_with fail
            refine wp_region_held_drew (S := fun w' => w'.cell? ⟨w.heap.size, 1, none⟩ = some (.slice (some ⟨ga, oa, none⟩) va.n va.c) ∧ w'.cell? ⟨w.heap.size + 1, 1, none⟩ = some (.slice (some ⟨gb, ob, none⟩) vb.n vb.c) ∧ w'.cell? ⟨ga, oa + i * 4, none⟩ = some (.int .i64 x.v) ∧ w'.cell? ⟨ga, oa + i * 4 + 1, none⟩ = some (.bool x.r.s) ∧ w'.cell? ⟨ga, oa + i * 4 + 2, none⟩ = some (.slice x.r.A x.r.n x.r.c) ∧ w'.cell? ⟨ga, oa + i * 4 + 3, none⟩ = some (.slice x.r.B x.r.m x.r.d) ∧ w'.cell? ⟨gb, ob + j * 4, none⟩ = some (.int .i64 y.v) ∧ w'.cell? ⟨gb, ob + j * 4 + 1, none⟩ = some (.bool y.r.s) ∧ w'.cell? ⟨gb, ob + j * 4 + 2, none⟩ = some (.slice y.r.A y.r.n y.r.c) ∧ w'.cell? ⟨gb, ob + j * 4 + 3, none⟩ = some (.slice y.r.B y.r.m y.r.d)) (by kernel_rfl) ?_ (fun hHeld => ?_)
            · (try dsimp only)
              go_keep
            refine wpAnyH_take (i := 0) (oi := { dst := some 28, op := Op.fieldAddr 27 (Operand.tmp 5) 1, type := 0, pos := "aff.go:65", after := #[], guard := none }) (v := ?vq114x) rfl (by kernel_rfl) (by kernel_rfl) (by kernel_rfl) (fun _ _ _ h => h) (Or.inl ⟨by rfl, ?hyq114x⟩) (by assumption) ?restq114x
            case hyq114x =>
              intro w hSw
              (try dsimp only at hSw)
              go_simp
              all_goals (with_reducible rfl)
            try simp only [Act.put, List.setIfInBounds_toArray, List.set_cons_zero, List.set_cons_succ]
            refine wpAnyH_take (i := 2) (oi := { dst := some 30, op := Op.fieldAddr 27 (Operand.tmp 2) 1, type := 0, pos := "aff.go:65", after := #[], guard := none }) (v := ?vq115x) rfl (by kernel_rfl) (by kernel_rfl) (by kernel_rfl) (fun _ _ _ h => h) (Or.inl ⟨by rfl, ?hyq115x⟩) (by assumption) ?restq115x
            case hyq115x =>
              intro w hSw
              (try dsimp only at hSw)
              go_simp
              all_goals (with_reducible rfl)
            try simp only [Act.put, List.setIfInBounds_toArray, List.set_cons_zero, List.set_cons_succ]
            refine wpAnyH_take (i := 3) (oi := { dst := some 31, op := Op.load 22 (Operand.tmp 30), type := 22, pos := "aff.go:65", after := #[{ on := 2, ground := Ground.data }], guard := none }) (v := ?vq116x) rfl (by kernel_rfl) (by kernel_rfl) (by kernel_rfl) (fun _ _ _ h => h) (Or.inl ⟨by rfl, ?hyq116x⟩) (by assumption) ?restq116x
            case hyq116x =>
              intro w hSw
              (try dsimp only at hSw)
              go_simp
              all_goals (with_reducible rfl)
            try simp only [Act.put, List.setIfInBounds_toArray, List.set_cons_zero, List.set_cons_succ]
            refine wpAnyH_take (i := 4) (oi := { dst := some 32, op := Op.move (Operand.tmp 6), type := 3, pos := "aff.go:65", after := #[], guard := none }) (v := ?vq117x) rfl (by kernel_rfl) (by kernel_rfl) (by kernel_rfl) (fun _ _ _ h => h) (Or.inl ⟨by rfl, ?hyq117x⟩) (by assumption) ?restq117x
            case hyq117x =>
              intro w hSw
              (try dsimp only at hSw)
              go_simp
              all_goals (with_reducible rfl)
            try simp only [Act.put, List.setIfInBounds_toArray, List.set_cons_zero, List.set_cons_succ]
            refine wpAnyH_take (i := 5) (oi := { dst := some 33, op := Op.indexAddr 22 (Operand.tmp 31) (Operand.tmp 32), type := 0, pos := "aff.go:65", after := #[{ on := 3, ground := Ground.data }, { on := 4, ground := Ground.data }], guard := none }) (v := ?vq118x) rfl (by kernel_rfl) (by kernel_rfl) (by kernel_rfl) (fun _ _ _ h => h) (Or.inl ⟨by rfl, ?hyq118x⟩) (by assumption) ?restq118x
            case hyq118x =>
              intro w hSw
              (try dsimp only at hSw)
              go_simp
              all_goals (with_reducible rfl)
            try simp only [Act.put, List.setIfInBounds_toArray, List.set_cons_zero, List.set_cons_succ]
            refine wpAnyH_take (i := 6) (oi := { dst := some 34, op := Op.fieldAddr 61 (Operand.tmp 33) 0, type := 0, pos := "aff.go:65", after := #[{ on := 5, ground := Ground.data }], guard := none }) (v := ?vq119x) rfl (by kernel_rfl) (by kernel_rfl) (by kernel_rfl) (fun _ _ _ h => h) (Or.inl ⟨by rfl, ?hyq119x⟩) (by assumption) ?restq119x
            case hyq119x =>
              intro w hSw
              (try dsimp only at hSw)
              go_simp
              all_goals (with_reducible rfl)
            try simp only [Act.put, List.setIfInBounds_toArray, List.set_cons_zero, List.set_cons_succ]
            refine wpAnyH_take (i := 7) (oi := { dst := some 35, op := Op.load 3 (Operand.tmp 34), type := 3, pos := "aff.go:65", after := #[{ on := 6, ground := Ground.data }], guard := none }) (v := ?vq120x) rfl (by kernel_rfl) (by kernel_rfl) (by kernel_rfl) (fun _ _ _ h => h) (Or.inl ⟨by rfl, ?hyq120x⟩) (by assumption) ?restq120x
            case hyq120x =>
              intro w hSw
              (try dsimp only at hSw)
              go_simp
              all_goals (with_reducible rfl)
            try simp only [Act.put, List.setIfInBounds_toArray, List.set_cons_zero, List.set_cons_succ]
            refine wpAnyH_take (i := 8) (oi := { dst := some 36, op := Op.fieldAddr 27 (Operand.tmp 2) 1, type := 0, pos := "aff.go:65", after := #[], guard := none }) (v := ?vq121x) rfl (by kernel_rfl) (by kernel_rfl) (by kernel_rfl) (fun _ _ _ h => h) (Or.inl ⟨by rfl, ?hyq121x⟩) (by assumption) ?restq121x
            case hyq121x =>
              intro w hSw
              (try dsimp only at hSw)
              go_simp
              all_goals (with_reducible rfl)
            try simp only [Act.put, List.setIfInBounds_toArray, List.set_cons_zero, List.set_cons_succ]
            refine wpAnyH_take (i := 9) (oi := { dst := some 37, op := Op.load 22 (Operand.tmp 36), type := 22, pos := "aff.go:65", after := #[{ on := 8, ground := Ground.data }], guard := none }) (v := ?vq122x) rfl (by kernel_rfl) (by kernel_rfl) (by kernel_rfl) (fun _ _ _ h => h) (Or.inl ⟨by rfl, ?hyq122x⟩) (by assumption) ?restq122x
            case hyq122x =>
              intro w hSw
              (try dsimp only at hSw)
              go_simp
              all_goals (with_reducible rfl)
            try simp only [Act.put, List.setIfInBounds_toArray, List.set_cons_zero, List.set_cons_succ]
            refine wpAnyH_take (i := 10) (oi := { dst := some 38, op := Op.move (Operand.tmp 6), type := 3, pos := "aff.go:65", after := #[], guard := none }) (v := ?vq123x) rfl (by kernel_rfl) (by kernel_rfl) (by kernel_rfl) (fun _ _ _ h => h) (Or.inl ⟨by rfl, ?hyq123x⟩) (by assumption) ?restq123x
            case hyq123x =>
              intro w hSw
              (try dsimp only at hSw)
              go_simp
              all_goals (with_reducible rfl)
            try simp only [Act.put, List.setIfInBounds_toArray, List.set_cons_zero, List.set_cons_succ]
            refine wpAnyH_take (i := 11) (oi := { dst := some 39, op := Op.indexAddr 22 (Operand.tmp 37) (Operand.tmp 38), type := 0, pos := "aff.go:65", after := #[{ on := 9, ground := Ground.data }, { on := 10, ground := Ground.data }], guard := none }) (v := ?vq124x) rfl (by kernel_rfl) (by kernel_rfl) (by kernel_rfl) (fun _ _ _ h => h) (Or.inl ⟨by rfl, ?hyq124x⟩) (by assumption) ?restq124x
            case hyq124x =>
              intro w hSw
              (try dsimp only at hSw)
              go_simp
              all_goals (with_reducible rfl)
            try simp only [Act.put, List.setIfInBounds_toArray, List.set_cons_zero, List.set_cons_succ]
            refine wpAnyH_take (i := 12) (oi := { dst := some 40, op := Op.fieldAddr 61 (Operand.tmp 39) 1, type := 0, pos := "aff.go:65", after := #[{ on := 11, ground := Ground.data }], guard := none }) (v := ?vq125x) rfl (by kernel_rfl) (by kernel_rfl) (by kernel_rfl) (fun _ _ _ h => h) (Or.inl ⟨by rfl, ?hyq125x⟩) (by assumption) ?restq125x
            case hyq125x =>
              intro w hSw
              (try dsimp only at hSw)
              go_simp
              all_goals (with_reducible rfl)
            try simp only [Act.put, List.setIfInBounds_toArray, List.set_cons_zero, List.set_cons_succ]
            refine wpAnyH_take (i := 13) (oi := { dst := some 41, op := Op.load 25 (Operand.tmp 40), type := 25, pos := "aff.go:65", after := #[{ on := 12, ground := Ground.data }], guard := none }) (v := ?vq126x) rfl (by kernel_rfl) (by kernel_rfl) (by kernel_rfl) (fun _ _ _ h => h) (Or.inl ⟨by rfl, ?hyq126x⟩) (by assumption) ?restq126x
            case hyq126x =>
              intro w hSw
              (try dsimp only at hSw)
              go_simp
              all_goals (with_reducible rfl)
            try simp only [Act.put, List.setIfInBounds_toArray, List.set_cons_zero, List.set_cons_succ]
            refine wpAnyH_take (i := 14) (oi := { dst := some 42, op := Op.fieldAddr 27 (Operand.tmp 3) 1, type := 0, pos := "aff.go:65", after := #[], guard := none }) (v := ?vq127x) rfl (by kernel_rfl) (by kernel_rfl) (by kernel_rfl) (fun _ _ _ h => h) (Or.inl ⟨by rfl, ?hyq127x⟩) (by assumption) ?restq127x
            case hyq127x =>
              intro w hSw
              (try dsimp only at hSw)
              go_simp
              all_goals (with_reducible rfl)
            try simp only [Act.put, List.setIfInBounds_toArray, List.set_cons_zero, List.set_cons_succ]
            refine wpAnyH_take (i := 15) (oi := { dst := some 43, op := Op.load 22 (Operand.tmp 42), type := 22, pos := "aff.go:65", after := #[{ on := 14, ground := Ground.data }], guard := none }) (v := ?vq128x) rfl (by kernel_rfl) (by kernel_rfl) (by kernel_rfl) (fun _ _ _ h => h) (Or.inl ⟨by rfl, ?hyq128x⟩) (by assumption) ?restq128x
            case hyq128x =>
              intro w hSw
              (try dsimp only at hSw)
              go_simp
              all_goals (with_reducible rfl)
            try simp only [Act.put, List.setIfInBounds_toArray, List.set_cons_zero, List.set_cons_succ]
            refine wpAnyH_take (i := 16) (oi := { dst := some 44, op := Op.move (Operand.tmp 7), type := 3, pos := "aff.go:65", after := #[], guard := none }) (v := ?vq129x) rfl (by kernel_rfl) (by kernel_rfl) (by kernel_rfl) (fun _ _ _ h => h) (Or.inl ⟨by rfl, ?hyq129x⟩) (by assumption) ?restq129x
            case hyq129x =>
              intro w hSw
              (try dsimp only at hSw)
              go_simp
              all_goals (with_reducible rfl)
            try simp only [Act.put, List.setIfInBounds_toArray, List.set_cons_zero, List.set_cons_succ]
            refine wpAnyH_take (i := 17) (oi := { dst := some 45, op := Op.indexAddr 22 (Operand.tmp 43) (Operand.tmp 44), type := 0, pos := "aff.go:65", after := #[{ on := 15, ground := Ground.data }, { on := 16, ground := Ground.data }], guard := none }) (v := ?vq130x) rfl (by kernel_rfl) (by kernel_rfl) (by kernel_rfl) (fun _ _ _ h => h) (Or.inl ⟨by rfl, ?hyq130x⟩) (by assumption) ?restq130x
            case hyq130x =>
              intro w hSw
              (try dsimp only at hSw)
              go_simp
              all_goals (with_reducible rfl)
            try simp only [Act.put, List.setIfInBounds_toArray, List.set_cons_zero, List.set_cons_succ]
            refine wpAnyH_take (i := 18) (oi := { dst := some 46, op := Op.fieldAddr 61 (Operand.tmp 45) 1, type := 0, pos := "aff.go:65", after := #[{ on := 17, ground := Ground.data }], guard := none }) (v := ?vq131x) rfl (by kernel_rfl) (by kernel_rfl) (by kernel_rfl) (fun _ _ _ h => h) (Or.inl ⟨by rfl, ?hyq131x⟩) (by assumption) ?restq131x
            case hyq131x =>
              intro w hSw
              (try dsimp only at hSw)
              go_simp
              all_goals (with_reducible rfl)
            try simp only [Act.put, List.setIfInBounds_toArray, List.set_cons_zero, List.set_cons_succ]
            refine wpAnyH_take (i := 19) (oi := { dst := some 47, op := Op.load 25 (Operand.tmp 46), type := 25, pos := "aff.go:65", after := #[{ on := 18, ground := Ground.data }], guard := none }) (v := ?vq132x) rfl (by kernel_rfl) (by kernel_rfl) (by kernel_rfl) (fun _ _ _ h => h) (Or.inl ⟨by rfl, ?hyq132x⟩) (by assumption) ?restq132x
            case hyq132x =>
              intro w hSw
              (try dsimp only at hSw)
              go_simp
              all_goals (with_reducible rfl)
            try simp only [Act.put, List.setIfInBounds_toArray, List.set_cons_zero, List.set_cons_succ]
            refine wpAnyH_ready (rs := [1, 20]) (by kernel_rfl) (by simp) ?_
            refine AllReadyH.cons (o := { dst := some 29, op := Op.load 22 (Operand.tmp 28), type := 22, pos := "aff.go:65", after := #[{ on := 0, ground := Ground.data }], guard := none }) rfl (fun K hK => ?_) (AllReadyH.cons (o := { dst := some 48, op := Op.call { callee := Callee.value (Operand.func 35), args := #[Operand.tmp 41, Operand.tmp 47], argTypes := #[25, 25] }, type := 25, pos := "aff.go:65", after := #[{ on := 13, ground := Ground.data }, { on := 19, ground := Ground.data }], guard := none }) rfl (fun K hK => ?_) AllReadyH.nil)
            · skip
              try go_simp
              try go_wp2_with fail
              refine hK.out _ _ ?_ (fun hHeld => ?_)
              · (try dsimp only)
                go_keep
              clear hK K
              try simp only [Act.put, List.setIfInBounds_toArray, List.set_cons_zero, List.set_cons_succ]
              refine wpAnyH_ready (rs := [20]) (by kernel_rfl) (by simp) ?_
              refine AllReadyH.cons (o := { dst := some 48, op := Op.call { callee := Callee.value (Operand.func 35), args := #[Operand.tmp 41, Operand.tmp 47], argTypes := #[25, 25] }, type := 25, pos := "aff.go:65", after := #[{ on := 13, ground := Ground.data }, { on := 19, ground := Ground.data }], guard := none }) rfl (fun K hK => ?_) AllReadyH.nil
              try go_simp
              go_at_call 35
              refine (rAdd_c x.r y.r P.2 Q.2 _ (HXR.out _ (bel_n wr 3)) (HYR.out _ (bel_n wr 3))).mono ?_
              rintro ee w3 ⟨u, rfl, hu, hb⟩
              have hbW := Below.trans (bel_n wr 3) hb
              have hk := kept_below hbW HIN.out.sz
              clear a0 a1 a2 a3 a4 b0 b1 b2 b3 b4 x0 x1 x2 x3 y0 y1 y2 y3 s0 s1 s2 s3 s4 t0 t1 t2 t3 t4
              obtain ⟨a0, a1, a2, a3, a4⟩ := (HALL0.out _ hk).1.facts
              obtain ⟨b0, b1, b2, b3, b4⟩ := (HALL0.out _ hk).2.1.facts
              rw [HVA.out] at a1
              obtain ⟨x0, x1, x2, x3⟩ := HXC.out _ hk
              rw [HVB.out] at b1
              obtain ⟨y0, y1, y2, y3⟩ := HYC.out _ hk
              obtain ⟨s0, s1, s2, s3, s4⟩ := (HBEL.out _ hbW).facts
              obtain ⟨t0, t1, t2, t3, t4⟩ := (HBEL.out _ hbW).thaw
              have HU := Lib.hid hu
              have HW3 := Lib.hid hbW
              have hz3 : wr.heap.size ≤ w3.heap.size := hbW.size
              clear hb hbW hk hu
              try go_wp2_with fail
              refine hK.out _ _ ?_ (fun hHeld => ?_)
              · (try dsimp only)
                go_keep
              clear hK K
              try simp only [Act.put, List.setIfInBounds_toArray, List.set_cons_zero, List.set_cons_succ]
              refine wpAnyH_ready (rs := [21]) (by kernel_rfl) (by simp) ?_
              refine AllReadyH.cons (o := { dst := some 49, op := Op.call { callee := Callee.value (Operand.func 36), args := #[Operand.tmp 29, Operand.tmp 35, Operand.tmp 48], argTypes := #[22, 3, 25] }, type := 22, pos := "aff.go:65", after := #[{ on := 1, ground := Ground.data }, { on := 7, ground := Ground.data }, { on := 20, ground := Ground.data }, { on := 20, ground := Ground.chain }], guard := none }) rfl (fun K hK => ?_) AllReadyH.nil
              try go_simp
              go_at_call 36
              refine (lay_c R p e wc.heap.size ls D x.v u (P.2 + Q.2) _ (HIN.out.gr.below HW3.out) ((HU.out.rw (HSX.out.add HSY.out)).more (by omega)) (by omega) (Nat.le_trans HIN.out.sz.1 (HW3.out).size)).mono ?_
              rintro ee w4 ⟨R2, c2, p2, ls2, rfl, hp2, hg2, hb, _, _⟩
              have hk := kept_lo (kept_below HW3.out HIN.out.sz) hb
              clear a0 a1 a2 a3 a4 b0 b1 b2 b3 b4 x0 x1 x2 x3 y0 y1 y2 y3 s0 s1 s2 s3 s4 t0 t1 t2 t3 t4
              obtain ⟨a0, a1, a2, a3, a4⟩ := (HALL0.out _ hk).1.facts
              obtain ⟨b0, b1, b2, b3, b4⟩ := (HALL0.out _ hk).2.1.facts
              rw [HVA.out] at a1
              obtain ⟨x0, x1, x2, x3⟩ := HXC.out _ hk
              rw [HVB.out] at b1
              obtain ⟨y0, y1, y2, y3⟩ := HYC.out _ hk
              obtain ⟨s0, s1, s2, s3, s4⟩ := ((HBEL.out _ HW3.out).at hb HX0.out.lt).facts
              obtain ⟨t0, t1, t2, t3, t4⟩ := ((HBEL.out _ HW3.out).at hb HX0.out.lt).thaw
              have HG4 := Lib.hid hg2
              have HB4 := Lib.hid (And.intro hk (And.intro HW3.out hb))
              clear hb hk hg2
              try go_wp2_with fail
              refine hK.out _ _ ?_ (fun hHeld => ?_)
              · (try dsimp only)
                go_keep
              clear hK K
              try simp only [Act.put, List.setIfInBounds_toArray, List.set_cons_zero, List.set_cons_succ]
              refine wpAnyH_take (i := 22) (oi := { dst := some 50, op := Op.fieldAddr 27 (Operand.tmp 5) 1, type := 0, pos := "aff.go:65", after := #[{ on := 0, ground := Ground.phase }, { on := 1, ground := Ground.phase }, { on := 2, ground := Ground.phase }, { on := 3, ground := Ground.phase }, { on := 4, ground := Ground.phase }, { on := 5, ground := Ground.phase }, { on := 6, ground := Ground.phase }, { on := 7, ground := Ground.phase }, { on := 8, ground := Ground.phase }, { on := 9, ground := Ground.phase }, { on := 10, ground := Ground.phase }, { on := 11, ground := Ground.phase }, { on := 12, ground := Ground.phase }, { on := 13, ground := Ground.phase }, { on := 14, ground := Ground.phase }, { on := 15, ground := Ground.phase }, { on := 16, ground := Ground.phase }, { on := 17, ground := Ground.phase }, { on := 18, ground := Ground.phase }, { on := 19, ground := Ground.phase }, { on := 20, ground := Ground.phase }, { on := 21, ground := Ground.phase }], guard := none }) (v := ?vq133x) rfl (by kernel_rfl) (by kernel_rfl) (by kernel_rfl) (fun _ _ _ h => h) (Or.inl ⟨by rfl, ?hyq133x⟩) (by assumption) ?restq133x
              case hyq133x =>
                intro w hSw
                (try dsimp only at hSw)
                go_simp
                all_goals (with_reducible rfl)
              try simp only [Act.put, List.setIfInBounds_toArray, List.set_cons_zero, List.set_cons_succ]
              refine wpAnyH_ready (rs := [23]) (by kernel_rfl) (by simp) ?_
              refine AllReadyH.cons (o := { dst := none, op := Op.store 22 (Operand.tmp 50) (Operand.tmp 49), type := 0, pos := "aff.go:65", after := #[{ on := 22, ground := Ground.data }, { on := 21, ground := Ground.data }, { on := 21, ground := Ground.chain }, { on := 0, ground := Ground.phase }, { on := 1, ground := Ground.phase }, { on := 2, ground := Ground.phase }, { on := 3, ground := Ground.phase }, { on := 4, ground := Ground.phase }, { on := 5, ground := Ground.phase }, { on := 6, ground := Ground.phase }, { on := 7, ground := Ground.phase }, { on := 8, ground := Ground.phase }, { on := 9, ground := Ground.phase }, { on := 10, ground := Ground.phase }, { on := 11, ground := Ground.phase }, { on := 12, ground := Ground.phase }, { on := 13, ground := Ground.phase }, { on := 14, ground := Ground.phase }, { on := 15, ground := Ground.phase }, { on := 16, ground := Ground.phase }, { on := 17, ground := Ground.phase }, { on := 18, ground := Ground.phase }, { on := 19, ground := Ground.phase }, { on := 20, ground := Ground.phase }, { on := 21, ground := Ground.phase }], guard := none }) rfl (fun K hK => ?_) AllReadyH.nil
              try go_simp
              try go_wp2_with fail
              refine hK.out _ _ ?_ (fun hHeld => ?_)
              · (try dsimp only)
                go_keep
              clear hK K
              try simp only [Act.put, List.setIfInBounds_toArray, List.set_cons_zero, List.set_cons_succ]
              refine wpAnyH_done (by kernel_rfl) ?_ _
              clear a0 a1 a2 a3 a4 b0 b1 b2 b3 b4 x0 x1 x2 x3 y0 y1 y2 y3 s0 s1 s2 s3 s4 t0 t1 t2 t3 t4
              go_wp2
              go_roundw
              case rel => exact ⟨i + 1, j + 1, R2, p2, c2, ls2, _, by omega, by omega, by go_num, by go_num, Lib.hid (RG.step HIN.out (HRC) HG4.out HB4.out.1 HB4.out.2.1 HB4.out.2.2 hp2)⟩
              case measure => simp [intOf]; omega
            · skip
              try go_simp
              go_at_call 35
              refine (rAdd_c x.r y.r P.2 Q.2 _ (HXR.out _ (bel_n wr 3)) (HYR.out _ (bel_n wr 3))).mono ?_
              rintro ee w3 ⟨u, rfl, hu, hb⟩
              have hbW := Below.trans (bel_n wr 3) hb
              have hk := kept_below hbW HIN.out.sz
              clear a0 a1 a2 a3 a4 b0 b1 b2 b3 b4 x0 x1 x2 x3 y0 y1 y2 y3 s0 s1 s2 s3 s4 t0 t1 t2 t3 t4
              obtain ⟨a0, a1, a2, a3, a4⟩ := (HALL0.out _ hk).1.facts
              obtain ⟨b0, b1, b2, b3, b4⟩ := (HALL0.out _ hk).2.1.facts
              rw [HVA.out] at a1
              obtain ⟨x0, x1, x2, x3⟩ := HXC.out _ hk
              rw [HVB.out] at b1
              obtain ⟨y0, y1, y2, y3⟩ := HYC.out _ hk
              obtain ⟨s0, s1, s2, s3, s4⟩ := (HBEL.out _ hbW).facts
              obtain ⟨t0, t1, t2, t3, t4⟩ := (HBEL.out _ hbW).thaw
              have HU := Lib.hid hu
              have HW3 := Lib.hid hbW
              have hz3 : wr.heap.size ≤ w3.heap.size := hbW.size
              clear hb hbW hk hu
              try go_wp2_with fail
              refine hK.out _ _ ?_ (fun hHeld => ?_)
              · (try dsimp only)
                go_keep
              clear hK K
              try simp only [Act.put, List.setIfInBounds_toArray, List.set_cons_zero, List.set_cons_succ]
              refine wpAnyH_ready (rs := [1]) (by kernel_rfl) (by simp) ?_
              refine AllReadyH.cons (o := { dst := some 29, op := Op.load 22 (Operand.tmp 28), type := 22, pos := "aff.go:65", after := #[{ on := 0, ground := Ground.data }], guard := none }) rfl (fun K hK => ?_) AllReadyH.nil
              try go_simp
              try go_wp2_with fail
              refine hK.out _ _ ?_ (fun hHeld => ?_)
              · (try dsimp only)
                go_keep
              clear hK K
              try simp only [Act.put, List.setIfInBounds_toArray, List.set_cons_zero, List.set_cons_succ]
              refine wpAnyH_ready (rs := [21]) (by kernel_rfl) (by simp) ?_
              refine AllReadyH.cons (o := { dst := some 49, op := Op.call { callee := Callee.value (Operand.func 36), args := #[Operand.tmp 29, Operand.tmp 35, Operand.tmp 48], argTypes := #[22, 3, 25] }, type := 22, pos := "aff.go:65", after := #[{ on := 1, ground := Ground.data }, { on := 7, ground := Ground.data }, { on := 20, ground := Ground.data }, { on := 20, ground := Ground.chain }], guard := none }) rfl (fun K hK => ?_) AllReadyH.nil
              try go_simp
              go_at_call 36
              refine (lay_c R p e wc.heap.size ls D x.v u (P.2 + Q.2) _ (HIN.out.gr.below HW3.out) ((HU.out.rw (HSX.out.add HSY.out)).more (by omega)) (by omega) (Nat.le_trans HIN.out.sz.1 (HW3.out).size)).mono ?_
              rintro ee w4 ⟨R2, c2, p2, ls2, rfl, hp2, hg2, hb, _, _⟩
              have hk := kept_lo (kept_below HW3.out HIN.out.sz) hb
              clear a0 a1 a2 a3 a4 b0 b1 b2 b3 b4 x0 x1 x2 x3 y0 y1 y2 y3 s0 s1 s2 s3 s4 t0 t1 t2 t3 t4
              obtain ⟨a0, a1, a2, a3, a4⟩ := (HALL0.out _ hk).1.facts
              obtain ⟨b0, b1, b2, b3, b4⟩ := (HALL0.out _ hk).2.1.facts
              rw [HVA.out] at a1
              obtain ⟨x0, x1, x2, x3⟩ := HXC.out _ hk
              rw [HVB.out] at b1
              obtain ⟨y0, y1, y2, y3⟩ := HYC.out _ hk
              obtain ⟨s0, s1, s2, s3, s4⟩ := ((HBEL.out _ HW3.out).at hb HX0.out.lt).facts
              obtain ⟨t0, t1, t2, t3, t4⟩ := ((HBEL.out _ HW3.out).at hb HX0.out.lt).thaw
              have HG4 := Lib.hid hg2
              have HB4 := Lib.hid (And.intro hk (And.intro HW3.out hb))
              clear hb hk hg2
              try go_wp2_with fail
              refine hK.out _ _ ?_ (fun hHeld => ?_)
              · (try dsimp only)
                go_keep
              clear hK K
              try simp only [Act.put, List.setIfInBounds_toArray, List.set_cons_zero, List.set_cons_succ]
              refine wpAnyH_take (i := 22) (oi := { dst := some 50, op := Op.fieldAddr 27 (Operand.tmp 5) 1, type := 0, pos := "aff.go:65", after := #[{ on := 0, ground := Ground.phase }, { on := 1, ground := Ground.phase }, { on := 2, ground := Ground.phase }, { on := 3, ground := Ground.phase }, { on := 4, ground := Ground.phase }, { on := 5, ground := Ground.phase }, { on := 6, ground := Ground.phase }, { on := 7, ground := Ground.phase }, { on := 8, ground := Ground.phase }, { on := 9, ground := Ground.phase }, { on := 10, ground := Ground.phase }, { on := 11, ground := Ground.phase }, { on := 12, ground := Ground.phase }, { on := 13, ground := Ground.phase }, { on := 14, ground := Ground.phase }, { on := 15, ground := Ground.phase }, { on := 16, ground := Ground.phase }, { on := 17, ground := Ground.phase }, { on := 18, ground := Ground.phase }, { on := 19, ground := Ground.phase }, { on := 20, ground := Ground.phase }, { on := 21, ground := Ground.phase }], guard := none }) (v := ?vq134x) rfl (by kernel_rfl) (by kernel_rfl) (by kernel_rfl) (fun _ _ _ h => h) (Or.inl ⟨by rfl, ?hyq134x⟩) (by assumption) ?restq134x
              case hyq134x =>
                intro w hSw
                (try dsimp only at hSw)
                go_simp
                all_goals (with_reducible rfl)
              try simp only [Act.put, List.setIfInBounds_toArray, List.set_cons_zero, List.set_cons_succ]
              refine wpAnyH_ready (rs := [23]) (by kernel_rfl) (by simp) ?_
              refine AllReadyH.cons (o := { dst := none, op := Op.store 22 (Operand.tmp 50) (Operand.tmp 49), type := 0, pos := "aff.go:65", after := #[{ on := 22, ground := Ground.data }, { on := 21, ground := Ground.data }, { on := 21, ground := Ground.chain }, { on := 0, ground := Ground.phase }, { on := 1, ground := Ground.phase }, { on := 2, ground := Ground.phase }, { on := 3, ground := Ground.phase }, { on := 4, ground := Ground.phase }, { on := 5, ground := Ground.phase }, { on := 6, ground := Ground.phase }, { on := 7, ground := Ground.phase }, { on := 8, ground := Ground.phase }, { on := 9, ground := Ground.phase }, { on := 10, ground := Ground.phase }, { on := 11, ground := Ground.phase }, { on := 12, ground := Ground.phase }, { on := 13, ground := Ground.phase }, { on := 14, ground := Ground.phase }, { on := 15, ground := Ground.phase }, { on := 16, ground := Ground.phase }, { on := 17, ground := Ground.phase }, { on := 18, ground := Ground.phase }, { on := 19, ground := Ground.phase }, { on := 20, ground := Ground.phase }, { on := 21, ground := Ground.phase }], guard := none }) rfl (fun K hK => ?_) AllReadyH.nil
              try go_simp
              try go_wp2_with fail
              refine hK.out _ _ ?_ (fun hHeld => ?_)
              · (try dsimp only)
                go_keep
              clear hK K
              try simp only [Act.put, List.setIfInBounds_toArray, List.set_cons_zero, List.set_cons_succ]
              refine wpAnyH_done (by kernel_rfl) ?_ _
              clear a0 a1 a2 a3 a4 b0 b1 b2 b3 b4 x0 x1 x2 x3 y0 y1 y2 y3 s0 s1 s2 s3 s4 t0 t1 t2 t3 t4
              go_wp2
              go_roundw
              case rel => exact ⟨i + 1, j + 1, R2, p2, c2, ls2, _, by omega, by omega, by go_num, by go_num, Lib.hid (RG.step HIN.out (HRC) HG4.out HB4.out.1 HB4.out.2.1 HB4.out.2.2 hp2)⟩
              case measure => simp [intOf]; omega
        · have hjm : j = vb.n := by omega
          have j2 : (j : Int) = (vb.n : Int) := by omega
          have HRA : Hid (addL (L.drop i) (M.drop j) = lay1 x.v P.2 ++ addL (L.drop (i + 1)) (M.drop j) ∧ i + j + 1 ≤ i + 1 + j) := by
            refine ⟨?_, by omega⟩
            rw [List.drop_eq_nil_of_le (show M.length ≤ j by rw [← HRM.out.2, HRM.out.1]; omega)]
            exact rest_a HP.out.1 HP.out.2
          subst hjm
          clear hjb
          have j4 : ((vb.n : Int) == (vb.n : Int)) = true := beq_self_eq_true _
          go_wp2_with fail
          refine wp_region_held_drew (S := fun w' => w'.cell? ⟨w.heap.size, 1, none⟩ = some (.slice (some ⟨ga, oa, none⟩) va.n va.c) ∧ w'.cell? ⟨w.heap.size + 1, 1, none⟩ = some (.slice vb.A vb.n vb.c) ∧ w'.cell? ⟨ga, oa + i * 4, none⟩ = some (.int .i64 x.v) ∧ w'.cell? ⟨ga, oa + i * 4 + 1, none⟩ = some (.bool x.r.s) ∧ w'.cell? ⟨ga, oa + i * 4 + 2, none⟩ = some (.slice x.r.A x.r.n x.r.c) ∧ w'.cell? ⟨ga, oa + i * 4 + 3, none⟩ = some (.slice x.r.B x.r.m x.r.d)) (by kernel_rfl) ?_ (fun hHeld => ?_)
          · (try dsimp only)
            go_keep
          refine wpAnyH_take (i := 0) (oi := { dst := some 56, op := Op.move (Operand.tmp 7), type := 3, pos := "aff.go:58", after := #[], guard := none }) (v := ?vq198x) rfl (by kernel_rfl) (by kernel_rfl) (by kernel_rfl) (fun _ _ _ h => h) (Or.inl ⟨by rfl, ?hyq198x⟩) (by assumption) ?restq198x
          case hyq198x =>
            intro w hSw
            (try dsimp only at hSw)
            go_simp
            all_goals (with_reducible rfl)
          try simp only [Act.put, List.setIfInBounds_toArray, List.set_cons_zero, List.set_cons_succ]
          refine wpAnyH_take (i := 1) (oi := { dst := some 57, op := Op.fieldAddr 27 (Operand.tmp 3) 1, type := 0, pos := "aff.go:58", after := #[], guard := none }) (v := ?vq199x) rfl (by kernel_rfl) (by kernel_rfl) (by kernel_rfl) (fun _ _ _ h => h) (Or.inl ⟨by rfl, ?hyq199x⟩) (by assumption) ?restq199x
          case hyq199x =>
            intro w hSw
            (try dsimp only at hSw)
            go_simp
            all_goals (with_reducible rfl)
          try simp only [Act.put, List.setIfInBounds_toArray, List.set_cons_zero, List.set_cons_succ]
          refine wpAnyH_take (i := 2) (oi := { dst := some 58, op := Op.load 22 (Operand.tmp 57), type := 22, pos := "aff.go:58", after := #[{ on := 1, ground := Ground.data }], guard := none }) (v := ?vq200x) rfl (by kernel_rfl) (by kernel_rfl) (by kernel_rfl) (fun _ _ _ h => h) (Or.inl ⟨by rfl, ?hyq200x⟩) (by assumption) ?restq200x
          case hyq200x =>
            intro w hSw
            (try dsimp only at hSw)
            go_simp
            all_goals (with_reducible rfl)
          try simp only [Act.put, List.setIfInBounds_toArray, List.set_cons_zero, List.set_cons_succ]
          refine wpAnyH_take (i := 3) (oi := { dst := some 59, op := Op.call { callee := Callee.builtin Builtin.len, args := #[Operand.tmp 58], argTypes := #[22] }, type := 3, pos := "aff.go:58", after := #[{ on := 2, ground := Ground.data }], guard := none }) (v := ?vq201x) rfl (by kernel_rfl) (by kernel_rfl) (by kernel_rfl) (fun _ _ _ h => h) (Or.inl ⟨by rfl, ?hyq201x⟩) (by assumption) ?restq201x
          case hyq201x =>
            intro w hSw
            (try dsimp only at hSw)
            go_simp
            all_goals (with_reducible rfl)
          try simp only [Act.put, List.setIfInBounds_toArray, List.set_cons_zero, List.set_cons_succ]
          refine wpAnyH_take (i := 4) (oi := { dst := some 60, op := Op.binOp BinOp.eql 3 (Operand.tmp 56) (Operand.tmp 59) 3, type := 4, pos := "aff.go:58", after := #[{ on := 0, ground := Ground.data }, { on := 3, ground := Ground.data }], guard := none }) (v := ?vq202x) rfl (by kernel_rfl) (by kernel_rfl) (by kernel_rfl) (fun _ _ _ h => h) (Or.inl ⟨by rfl, ?hyq202x⟩) (by assumption) ?restq202x
          case hyq202x =>
            intro w hSw
            (try dsimp only at hSw)
            go_simp
            all_goals (with_reducible rfl)
          try simp only [Act.put, List.setIfInBounds_toArray, List.set_cons_zero, List.set_cons_succ]
          refine wpAnyH_take (i := 5) (oi := { dst := some 61, op := Op.move (Operand.tmp 60), type := 4, pos := "aff.go:58", after := #[{ on := 4, ground := Ground.data }], guard := none }) (v := ?vq203x) rfl (by kernel_rfl) (by kernel_rfl) (by kernel_rfl) (fun _ _ _ h => h) (Or.inl ⟨by rfl, ?hyq203x⟩) (by assumption) ?restq203x
          case hyq203x =>
            intro w hSw
            (try dsimp only at hSw)
            go_simp
            all_goals (with_reducible rfl)
          try simp only [Act.put, List.setIfInBounds_toArray, List.set_cons_zero, List.set_cons_succ]
          refine wpAnyH_take (i := 6) (oi := { dst := some 62, op := Op.move (Operand.tmp 6), type := 3, pos := "aff.go:58", after := #[{ on := 5, ground := Ground.guard }], guard := some (5, false) }) (v := undef) rfl (by kernel_rfl) (by kernel_rfl) (by kernel_rfl) (fun _ _ _ h => h) (Or.inr ⟨by rfl, rfl⟩) (by assumption) ?_
          try simp only [Act.put, List.setIfInBounds_toArray, List.set_cons_zero, List.set_cons_succ]
          refine wpAnyH_take (i := 7) (oi := { dst := some 63, op := Op.fieldAddr 27 (Operand.tmp 2) 1, type := 0, pos := "aff.go:58", after := #[{ on := 5, ground := Ground.guard }], guard := some (5, false) }) (v := undef) rfl (by kernel_rfl) (by kernel_rfl) (by kernel_rfl) (fun _ _ _ h => h) (Or.inr ⟨by rfl, rfl⟩) (by assumption) ?_
          try simp only [Act.put, List.setIfInBounds_toArray, List.set_cons_zero, List.set_cons_succ]
          refine wpAnyH_take (i := 8) (oi := { dst := some 64, op := Op.load 22 (Operand.tmp 63), type := 22, pos := "aff.go:58", after := #[{ on := 7, ground := Ground.data }, { on := 5, ground := Ground.guard }], guard := some (5, false) }) (v := undef) rfl (by kernel_rfl) (by kernel_rfl) (by kernel_rfl) (fun _ _ _ h => h) (Or.inr ⟨by rfl, rfl⟩) (by assumption) ?_
          try simp only [Act.put, List.setIfInBounds_toArray, List.set_cons_zero, List.set_cons_succ]
          refine wpAnyH_take (i := 9) (oi := { dst := some 65, op := Op.call { callee := Callee.builtin Builtin.len, args := #[Operand.tmp 64], argTypes := #[22] }, type := 3, pos := "aff.go:58", after := #[{ on := 8, ground := Ground.data }, { on := 5, ground := Ground.guard }], guard := some (5, false) }) (v := undef) rfl (by kernel_rfl) (by kernel_rfl) (by kernel_rfl) (fun _ _ _ h => h) (Or.inr ⟨by rfl, rfl⟩) (by assumption) ?_
          try simp only [Act.put, List.setIfInBounds_toArray, List.set_cons_zero, List.set_cons_succ]
          refine wpAnyH_take (i := 10) (oi := { dst := some 66, op := Op.binOp BinOp.lss 3 (Operand.tmp 62) (Operand.tmp 65) 3, type := 4, pos := "aff.go:58", after := #[{ on := 6, ground := Ground.data }, { on := 9, ground := Ground.data }, { on := 5, ground := Ground.guard }], guard := some (5, false) }) (v := undef) rfl (by kernel_rfl) (by kernel_rfl) (by kernel_rfl) (fun _ _ _ h => h) (Or.inr ⟨by rfl, rfl⟩) (by assumption) ?_
          try simp only [Act.put, List.setIfInBounds_toArray, List.set_cons_zero, List.set_cons_succ]
          refine wpAnyH_take (i := 11) (oi := { dst := some 67, op := Op.move (Operand.tmp 66), type := 4, pos := "aff.go:58", after := #[{ on := 10, ground := Ground.data }, { on := 5, ground := Ground.chain }, { on := 5, ground := Ground.guard }], guard := some (5, false) }) (v := undef) rfl (by kernel_rfl) (by kernel_rfl) (by kernel_rfl) (fun _ _ _ h => h) (Or.inr ⟨by rfl, rfl⟩) (by assumption) ?_
          try simp only [Act.put, List.setIfInBounds_toArray, List.set_cons_zero, List.set_cons_succ]
          refine wpAnyH_take (i := 12) (oi := { dst := some 68, op := Op.fieldAddr 27 (Operand.tmp 2) 1, type := 0, pos := "aff.go:58", after := #[{ on := 11, ground := Ground.guard }], guard := some (11, true) }) (v := undef) rfl (by kernel_rfl) (by kernel_rfl) (by kernel_rfl) (fun _ _ _ h => h) (Or.inr ⟨by rfl, rfl⟩) (by assumption) ?_
          try simp only [Act.put, List.setIfInBounds_toArray, List.set_cons_zero, List.set_cons_succ]
          refine wpAnyH_take (i := 13) (oi := { dst := some 69, op := Op.load 22 (Operand.tmp 68), type := 22, pos := "aff.go:58", after := #[{ on := 12, ground := Ground.data }, { on := 11, ground := Ground.guard }], guard := some (11, true) }) (v := undef) rfl (by kernel_rfl) (by kernel_rfl) (by kernel_rfl) (fun _ _ _ h => h) (Or.inr ⟨by rfl, rfl⟩) (by assumption) ?_
          try simp only [Act.put, List.setIfInBounds_toArray, List.set_cons_zero, List.set_cons_succ]
          refine wpAnyH_take (i := 14) (oi := { dst := some 70, op := Op.move (Operand.tmp 6), type := 3, pos := "aff.go:58", after := #[{ on := 11, ground := Ground.guard }], guard := some (11, true) }) (v := undef) rfl (by kernel_rfl) (by kernel_rfl) (by kernel_rfl) (fun _ _ _ h => h) (Or.inr ⟨by rfl, rfl⟩) (by assumption) ?_
          try simp only [Act.put, List.setIfInBounds_toArray, List.set_cons_zero, List.set_cons_succ]
          refine wpAnyH_take (i := 15) (oi := { dst := some 71, op := Op.indexAddr 22 (Operand.tmp 69) (Operand.tmp 70), type := 0, pos := "aff.go:58", after := #[{ on := 13, ground := Ground.data }, { on := 14, ground := Ground.data }, { on := 11, ground := Ground.guard }], guard := some (11, true) }) (v := undef) rfl (by kernel_rfl) (by kernel_rfl) (by kernel_rfl) (fun _ _ _ h => h) (Or.inr ⟨by rfl, rfl⟩) (by assumption) ?_
          try simp only [Act.put, List.setIfInBounds_toArray, List.set_cons_zero, List.set_cons_succ]
          refine wpAnyH_take (i := 16) (oi := { dst := some 72, op := Op.fieldAddr 61 (Operand.tmp 71) 0, type := 0, pos := "aff.go:58", after := #[{ on := 15, ground := Ground.data }, { on := 11, ground := Ground.guard }], guard := some (11, true) }) (v := undef) rfl (by kernel_rfl) (by kernel_rfl) (by kernel_rfl) (fun _ _ _ h => h) (Or.inr ⟨by rfl, rfl⟩) (by assumption) ?_
          try simp only [Act.put, List.setIfInBounds_toArray, List.set_cons_zero, List.set_cons_succ]
          refine wpAnyH_take (i := 17) (oi := { dst := some 73, op := Op.load 3 (Operand.tmp 72), type := 3, pos := "aff.go:58", after := #[{ on := 16, ground := Ground.data }, { on := 11, ground := Ground.guard }], guard := some (11, true) }) (v := undef) rfl (by kernel_rfl) (by kernel_rfl) (by kernel_rfl) (fun _ _ _ h => h) (Or.inr ⟨by rfl, rfl⟩) (by assumption) ?_
          try simp only [Act.put, List.setIfInBounds_toArray, List.set_cons_zero, List.set_cons_succ]
          refine wpAnyH_take (i := 18) (oi := { dst := some 74, op := Op.fieldAddr 27 (Operand.tmp 3) 1, type := 0, pos := "aff.go:58", after := #[{ on := 11, ground := Ground.guard }], guard := some (11, true) }) (v := undef) rfl (by kernel_rfl) (by kernel_rfl) (by kernel_rfl) (fun _ _ _ h => h) (Or.inr ⟨by rfl, rfl⟩) (by assumption) ?_
          try simp only [Act.put, List.setIfInBounds_toArray, List.set_cons_zero, List.set_cons_succ]
          refine wpAnyH_take (i := 19) (oi := { dst := some 75, op := Op.load 22 (Operand.tmp 74), type := 22, pos := "aff.go:58", after := #[{ on := 18, ground := Ground.data }, { on := 11, ground := Ground.guard }], guard := some (11, true) }) (v := undef) rfl (by kernel_rfl) (by kernel_rfl) (by kernel_rfl) (fun _ _ _ h => h) (Or.inr ⟨by rfl, rfl⟩) (by assumption) ?_
          try simp only [Act.put, List.setIfInBounds_toArray, List.set_cons_zero, List.set_cons_succ]
          refine wpAnyH_take (i := 20) (oi := { dst := some 76, op := Op.move (Operand.tmp 7), type := 3, pos := "aff.go:58", after := #[{ on := 11, ground := Ground.guard }], guard := some (11, true) }) (v := undef) rfl (by kernel_rfl) (by kernel_rfl) (by kernel_rfl) (fun _ _ _ h => h) (Or.inr ⟨by rfl, rfl⟩) (by assumption) ?_
          try simp only [Act.put, List.setIfInBounds_toArray, List.set_cons_zero, List.set_cons_succ]
          refine wpAnyH_take (i := 21) (oi := { dst := some 77, op := Op.indexAddr 22 (Operand.tmp 75) (Operand.tmp 76), type := 0, pos := "aff.go:58", after := #[{ on := 19, ground := Ground.data }, { on := 20, ground := Ground.data }, { on := 11, ground := Ground.guard }], guard := some (11, true) }) (v := undef) rfl (by kernel_rfl) (by kernel_rfl) (by kernel_rfl) (fun _ _ _ h => h) (Or.inr ⟨by rfl, rfl⟩) (by assumption) ?_
          try simp only [Act.put, List.setIfInBounds_toArray, List.set_cons_zero, List.set_cons_succ]
          refine wpAnyH_take (i := 22) (oi := { dst := some 78, op := Op.fieldAddr 61 (Operand.tmp 77) 0, type := 0, pos := "aff.go:58", after := #[{ on := 21, ground := Ground.data }, { on := 11, ground := Ground.guard }], guard := some (11, true) }) (v := undef) rfl (by kernel_rfl) (by kernel_rfl) (by kernel_rfl) (fun _ _ _ h => h) (Or.inr ⟨by rfl, rfl⟩) (by assumption) ?_
          try simp only [Act.put, List.setIfInBounds_toArray, List.set_cons_zero, List.set_cons_succ]
          refine wpAnyH_take (i := 23) (oi := { dst := some 79, op := Op.load 3 (Operand.tmp 78), type := 3, pos := "aff.go:58", after := #[{ on := 22, ground := Ground.data }, { on := 11, ground := Ground.guard }], guard := some (11, true) }) (v := undef) rfl (by kernel_rfl) (by kernel_rfl) (by kernel_rfl) (fun _ _ _ h => h) (Or.inr ⟨by rfl, rfl⟩) (by assumption) ?_
          try simp only [Act.put, List.setIfInBounds_toArray, List.set_cons_zero, List.set_cons_succ]
          refine wpAnyH_take (i := 24) (oi := { dst := some 80, op := Op.binOp BinOp.lss 3 (Operand.tmp 73) (Operand.tmp 79) 3, type := 4, pos := "aff.go:58", after := #[{ on := 17, ground := Ground.data }, { on := 23, ground := Ground.data }, { on := 11, ground := Ground.guard }], guard := some (11, true) }) (v := undef) rfl (by kernel_rfl) (by kernel_rfl) (by kernel_rfl) (fun _ _ _ h => h) (Or.inr ⟨by rfl, rfl⟩) (by assumption) ?_
          try simp only [Act.put, List.setIfInBounds_toArray, List.set_cons_zero, List.set_cons_succ]
          refine wpAnyH_take (i := 25) (oi := { dst := some 81, op := Op.pick (Operand.tmp 67) (Operand.tmp 80) (Operand.const (Value.bool false)), type := 4, pos := "aff.go:58", after := #[{ on := 11, ground := Ground.data }, { on := 24, ground := Ground.data }, { on := 5, ground := Ground.guard }], guard := some (5, false) }) (v := undef) rfl (by kernel_rfl) (by kernel_rfl) (by kernel_rfl) (fun _ _ _ h => h) (Or.inr ⟨by rfl, rfl⟩) (by assumption) ?_
          try simp only [Act.put, List.setIfInBounds_toArray, List.set_cons_zero, List.set_cons_succ]
          refine wpAnyH_take (i := 26) (oi := { dst := some 82, op := Op.pick (Operand.tmp 61) (Operand.const (Value.bool true)) (Operand.tmp 81), type := 4, pos := "aff.go:58", after := #[{ on := 5, ground := Ground.data }, { on := 25, ground := Ground.data }], guard := none }) (v := ?vq204x) rfl (by kernel_rfl) (by kernel_rfl) (by kernel_rfl) (fun _ _ _ h => h) (Or.inl ⟨by rfl, ?hyq204x⟩) (by assumption) ?restq204x
          case hyq204x =>
            intro w hSw
            (try dsimp only at hSw)
            go_simp
            all_goals (with_reducible rfl)
          try simp only [Act.put, List.setIfInBounds_toArray, List.set_cons_zero, List.set_cons_succ]
          refine wpAnyH_take (i := 27) (oi := { dst := some 55, op := Op.assign (Operand.tmp 82), type := 4, pos := "aff.go:58", after := #[{ on := 26, ground := Ground.data }, { on := 11, ground := Ground.chain }], guard := none }) (v := ?vq205x) rfl (by kernel_rfl) (by kernel_rfl) (by kernel_rfl) (fun _ _ _ h => h) (Or.inl ⟨by rfl, ?hyq205x⟩) (by assumption) ?restq205x
          case hyq205x =>
            intro w hSw
            (try dsimp only at hSw)
            go_simp
            all_goals (with_reducible rfl)
          try simp only [Act.put, List.setIfInBounds_toArray, List.set_cons_zero, List.set_cons_succ]
          refine wpAnyH_done (by kernel_rfl) ?_ _
          go_wp2_with fail
          refine wp_region_held_drew (S := fun w' => w'.cell? ⟨w.heap.size, 1, none⟩ = some (.slice (some ⟨ga, oa, none⟩) va.n va.c) ∧ w'.cell? ⟨w.heap.size + 1, 1, none⟩ = some (.slice vb.A vb.n vb.c) ∧ w'.cell? ⟨ga, oa + i * 4, none⟩ = some (.int .i64 x.v) ∧ w'.cell? ⟨ga, oa + i * 4 + 1, none⟩ = some (.bool x.r.s) ∧ w'.cell? ⟨ga, oa + i * 4 + 2, none⟩ = some (.slice x.r.A x.r.n x.r.c) ∧ w'.cell? ⟨ga, oa + i * 4 + 3, none⟩ = some (.slice x.r.B x.r.m x.r.d)) (by kernel_rfl) ?_ (fun hHeld => ?_)
          · (try dsimp only)
            go_keep
          refine wpAnyH_take (i := 0) (oi := { dst := some 83, op := Op.fieldAddr 27 (Operand.tmp 5) 1, type := 0, pos := "aff.go:59", after := #[], guard := none }) (v := ?vq184x) rfl (by kernel_rfl) (by kernel_rfl) (by kernel_rfl) (fun _ _ _ h => h) (Or.inl ⟨by rfl, ?hyq184x⟩) (by assumption) ?restq184x
          case hyq184x =>
            intro w hSw
            (try dsimp only at hSw)
            go_simp
            all_goals (with_reducible rfl)
          try simp only [Act.put, List.setIfInBounds_toArray, List.set_cons_zero, List.set_cons_succ]
          refine wpAnyH_take (i := 2) (oi := { dst := some 85, op := Op.fieldAddr 27 (Operand.tmp 2) 1, type := 0, pos := "aff.go:59", after := #[], guard := none }) (v := ?vq185x) rfl (by kernel_rfl) (by kernel_rfl) (by kernel_rfl) (fun _ _ _ h => h) (Or.inl ⟨by rfl, ?hyq185x⟩) (by assumption) ?restq185x
          case hyq185x =>
            intro w hSw
            (try dsimp only at hSw)
            go_simp
            all_goals (with_reducible rfl)
          try simp only [Act.put, List.setIfInBounds_toArray, List.set_cons_zero, List.set_cons_succ]
          refine wpAnyH_take (i := 3) (oi := { dst := some 86, op := Op.load 22 (Operand.tmp 85), type := 22, pos := "aff.go:59", after := #[{ on := 2, ground := Ground.data }], guard := none }) (v := ?vq186x) rfl (by kernel_rfl) (by kernel_rfl) (by kernel_rfl) (fun _ _ _ h => h) (Or.inl ⟨by rfl, ?hyq186x⟩) (by assumption) ?restq186x
          case hyq186x =>
            intro w hSw
            (try dsimp only at hSw)
            go_simp
            all_goals (with_reducible rfl)
          try simp only [Act.put, List.setIfInBounds_toArray, List.set_cons_zero, List.set_cons_succ]
          refine wpAnyH_take (i := 4) (oi := { dst := some 87, op := Op.move (Operand.tmp 6), type := 3, pos := "aff.go:59", after := #[], guard := none }) (v := ?vq187x) rfl (by kernel_rfl) (by kernel_rfl) (by kernel_rfl) (fun _ _ _ h => h) (Or.inl ⟨by rfl, ?hyq187x⟩) (by assumption) ?restq187x
          case hyq187x =>
            intro w hSw
            (try dsimp only at hSw)
            go_simp
            all_goals (with_reducible rfl)
          try simp only [Act.put, List.setIfInBounds_toArray, List.set_cons_zero, List.set_cons_succ]
          refine wpAnyH_take (i := 5) (oi := { dst := some 88, op := Op.indexAddr 22 (Operand.tmp 86) (Operand.tmp 87), type := 0, pos := "aff.go:59", after := #[{ on := 3, ground := Ground.data }, { on := 4, ground := Ground.data }], guard := none }) (v := ?vq188x) rfl (by kernel_rfl) (by kernel_rfl) (by kernel_rfl) (fun _ _ _ h => h) (Or.inl ⟨by rfl, ?hyq188x⟩) (by assumption) ?restq188x
          case hyq188x =>
            intro w hSw
            (try dsimp only at hSw)
            go_simp
            all_goals (with_reducible rfl)
          try simp only [Act.put, List.setIfInBounds_toArray, List.set_cons_zero, List.set_cons_succ]
          refine wpAnyH_take (i := 6) (oi := { dst := some 89, op := Op.fieldAddr 61 (Operand.tmp 88) 0, type := 0, pos := "aff.go:59", after := #[{ on := 5, ground := Ground.data }], guard := none }) (v := ?vq189x) rfl (by kernel_rfl) (by kernel_rfl) (by kernel_rfl) (fun _ _ _ h => h) (Or.inl ⟨by rfl, ?hyq189x⟩) (by assumption) ?restq189x
          case hyq189x =>
            intro w hSw
            (try dsimp only at hSw)
            go_simp
            all_goals (with_reducible rfl)
          try simp only [Act.put, List.setIfInBounds_toArray, List.set_cons_zero, List.set_cons_succ]
          refine wpAnyH_take (i := 7) (oi := { dst := some 90, op := Op.load 3 (Operand.tmp 89), type := 3, pos := "aff.go:59", after := #[{ on := 6, ground := Ground.data }], guard := none }) (v := ?vq190x) rfl (by kernel_rfl) (by kernel_rfl) (by kernel_rfl) (fun _ _ _ h => h) (Or.inl ⟨by rfl, ?hyq190x⟩) (by assumption) ?restq190x
          case hyq190x =>
            intro w hSw
            (try dsimp only at hSw)
            go_simp
            all_goals (with_reducible rfl)
          try simp only [Act.put, List.setIfInBounds_toArray, List.set_cons_zero, List.set_cons_succ]
          refine wpAnyH_take (i := 8) (oi := { dst := some 91, op := Op.fieldAddr 27 (Operand.tmp 2) 1, type := 0, pos := "aff.go:59", after := #[], guard := none }) (v := ?vq191x) rfl (by kernel_rfl) (by kernel_rfl) (by kernel_rfl) (fun _ _ _ h => h) (Or.inl ⟨by rfl, ?hyq191x⟩) (by assumption) ?restq191x
          case hyq191x =>
            intro w hSw
            (try dsimp only at hSw)
            go_simp
            all_goals (with_reducible rfl)
          try simp only [Act.put, List.setIfInBounds_toArray, List.set_cons_zero, List.set_cons_succ]
          refine wpAnyH_take (i := 9) (oi := { dst := some 92, op := Op.load 22 (Operand.tmp 91), type := 22, pos := "aff.go:59", after := #[{ on := 8, ground := Ground.data }], guard := none }) (v := ?vq192x) rfl (by kernel_rfl) (by kernel_rfl) (by kernel_rfl) (fun _ _ _ h => h) (Or.inl ⟨by rfl, ?hyq192x⟩) (by assumption) ?restq192x
          case hyq192x =>
            intro w hSw
            (try dsimp only at hSw)
            go_simp
            all_goals (with_reducible rfl)
          try simp only [Act.put, List.setIfInBounds_toArray, List.set_cons_zero, List.set_cons_succ]
          refine wpAnyH_take (i := 10) (oi := { dst := some 93, op := Op.move (Operand.tmp 6), type := 3, pos := "aff.go:59", after := #[], guard := none }) (v := ?vq193x) rfl (by kernel_rfl) (by kernel_rfl) (by kernel_rfl) (fun _ _ _ h => h) (Or.inl ⟨by rfl, ?hyq193x⟩) (by assumption) ?restq193x
          case hyq193x =>
            intro w hSw
            (try dsimp only at hSw)
            go_simp
            all_goals (with_reducible rfl)
          try simp only [Act.put, List.setIfInBounds_toArray, List.set_cons_zero, List.set_cons_succ]
          refine wpAnyH_take (i := 11) (oi := { dst := some 94, op := Op.indexAddr 22 (Operand.tmp 92) (Operand.tmp 93), type := 0, pos := "aff.go:59", after := #[{ on := 9, ground := Ground.data }, { on := 10, ground := Ground.data }], guard := none }) (v := ?vq194x) rfl (by kernel_rfl) (by kernel_rfl) (by kernel_rfl) (fun _ _ _ h => h) (Or.inl ⟨by rfl, ?hyq194x⟩) (by assumption) ?restq194x
          case hyq194x =>
            intro w hSw
            (try dsimp only at hSw)
            go_simp
            all_goals (with_reducible rfl)
          try simp only [Act.put, List.setIfInBounds_toArray, List.set_cons_zero, List.set_cons_succ]
          refine wpAnyH_take (i := 12) (oi := { dst := some 95, op := Op.fieldAddr 61 (Operand.tmp 94) 1, type := 0, pos := "aff.go:59", after := #[{ on := 11, ground := Ground.data }], guard := none }) (v := ?vq195x) rfl (by kernel_rfl) (by kernel_rfl) (by kernel_rfl) (fun _ _ _ h => h) (Or.inl ⟨by rfl, ?hyq195x⟩) (by assumption) ?restq195x
          case hyq195x =>
            intro w hSw
            (try dsimp only at hSw)
            go_simp
            all_goals (with_reducible rfl)
          try simp only [Act.put, List.setIfInBounds_toArray, List.set_cons_zero, List.set_cons_succ]
          refine wpAnyH_take (i := 13) (oi := { dst := some 96, op := Op.load 25 (Operand.tmp 95), type := 25, pos := "aff.go:59", after := #[{ on := 12, ground := Ground.data }], guard := none }) (v := ?vq196x) rfl (by kernel_rfl) (by kernel_rfl) (by kernel_rfl) (fun _ _ _ h => h) (Or.inl ⟨by rfl, ?hyq196x⟩) (by assumption) ?restq196x
          case hyq196x =>
            intro w hSw
            (try dsimp only at hSw)
            go_simp
            all_goals (with_reducible rfl)
          try simp only [Act.put, List.setIfInBounds_toArray, List.set_cons_zero, List.set_cons_succ]
          refine wpAnyH_ready (rs := [1]) (by kernel_rfl) (by simp) ?_
          refine AllReadyH.cons (o := { dst := some 84, op := Op.load 22 (Operand.tmp 83), type := 22, pos := "aff.go:59", after := #[{ on := 0, ground := Ground.data }], guard := none }) rfl (fun K hK => ?_) AllReadyH.nil
          try go_simp
          try go_wp2_with fail
          refine hK.out _ _ ?_ (fun hHeld => ?_)
          · (try dsimp only)
            go_keep
          clear hK K
          try simp only [Act.put, List.setIfInBounds_toArray, List.set_cons_zero, List.set_cons_succ]
          refine wpAnyH_ready (rs := [14]) (by kernel_rfl) (by simp) ?_
          refine AllReadyH.cons (o := { dst := some 97, op := Op.call { callee := Callee.value (Operand.func 36), args := #[Operand.tmp 84, Operand.tmp 90, Operand.tmp 96], argTypes := #[22, 3, 25] }, type := 22, pos := "aff.go:59", after := #[{ on := 1, ground := Ground.data }, { on := 7, ground := Ground.data }, { on := 13, ground := Ground.data }], guard := none }) rfl (fun K hK => ?_) AllReadyH.nil
          try go_simp
          go_at_call 36
          refine (lay_c R p e wc.heap.size ls D x.v x.r P.2 _ (HIN.out.gr.below (bel_n wr 2)) ((HXR.out _ (bel_n wr 2)).more (by omega)) (by omega) (Nat.le_trans HIN.out.sz.1 ((bel_n wr 2)).size)).mono ?_
          rintro ee w4 ⟨R2, c2, p2, ls2, rfl, hp2, hg2, hb, _, _⟩
          have hk := kept_lo (kept_below (bel_n wr 2) HIN.out.sz) hb
          clear a0 a1 a2 a3 a4 b0 b1 b2 b3 b4 x0 x1 x2 x3 s0 s1 s2 s3 s4 t0 t1 t2 t3 t4
          obtain ⟨a0, a1, a2, a3, a4⟩ := (HALL0.out _ hk).1.facts
          obtain ⟨b0, b1, b2, b3, b4⟩ := (HALL0.out _ hk).2.1.facts
          rw [HVA.out] at a1
          obtain ⟨x0, x1, x2, x3⟩ := HXC.out _ hk
          obtain ⟨s0, s1, s2, s3, s4⟩ := ((HBEL.out _ (bel_n wr 2)).at hb HX0.out.lt).facts
          obtain ⟨t0, t1, t2, t3, t4⟩ := ((HBEL.out _ (bel_n wr 2)).at hb HX0.out.lt).thaw
          have HG4 := Lib.hid hg2
          have HB4 := Lib.hid (And.intro hk (And.intro (bel_n wr 2) hb))
          clear hb hk hg2
          try go_wp2_with fail
          refine hK.out _ _ ?_ (fun hHeld => ?_)
          · (try dsimp only)
            go_keep
          clear hK K
          try simp only [Act.put, List.setIfInBounds_toArray, List.set_cons_zero, List.set_cons_succ]
          refine wpAnyH_take (i := 15) (oi := { dst := some 98, op := Op.fieldAddr 27 (Operand.tmp 5) 1, type := 0, pos := "aff.go:59", after := #[{ on := 0, ground := Ground.phase }, { on := 1, ground := Ground.phase }, { on := 2, ground := Ground.phase }, { on := 3, ground := Ground.phase }, { on := 4, ground := Ground.phase }, { on := 5, ground := Ground.phase }, { on := 6, ground := Ground.phase }, { on := 7, ground := Ground.phase }, { on := 8, ground := Ground.phase }, { on := 9, ground := Ground.phase }, { on := 10, ground := Ground.phase }, { on := 11, ground := Ground.phase }, { on := 12, ground := Ground.phase }, { on := 13, ground := Ground.phase }, { on := 14, ground := Ground.phase }], guard := none }) (v := ?vq197x) rfl (by kernel_rfl) (by kernel_rfl) (by kernel_rfl) (fun _ _ _ h => h) (Or.inl ⟨by rfl, ?hyq197x⟩) (by assumption) ?restq197x
          case hyq197x =>
            intro w hSw
            (try dsimp only at hSw)
            go_simp
            all_goals (with_reducible rfl)
          try simp only [Act.put, List.setIfInBounds_toArray, List.set_cons_zero, List.set_cons_succ]
          refine wpAnyH_ready (rs := [16]) (by kernel_rfl) (by simp) ?_
          refine AllReadyH.cons (o := { dst := none, op := Op.store 22 (Operand.tmp 98) (Operand.tmp 97), type := 0, pos := "aff.go:59", after := #[{ on := 15, ground := Ground.data }, { on := 14, ground := Ground.data }, { on := 14, ground := Ground.chain }, { on := 0, ground := Ground.phase }, { on := 1, ground := Ground.phase }, { on := 2, ground := Ground.phase }, { on := 3, ground := Ground.phase }, { on := 4, ground := Ground.phase }, { on := 5, ground := Ground.phase }, { on := 6, ground := Ground.phase }, { on := 7, ground := Ground.phase }, { on := 8, ground := Ground.phase }, { on := 9, ground := Ground.phase }, { on := 10, ground := Ground.phase }, { on := 11, ground := Ground.phase }, { on := 12, ground := Ground.phase }, { on := 13, ground := Ground.phase }, { on := 14, ground := Ground.phase }], guard := none }) rfl (fun K hK => ?_) AllReadyH.nil
          try go_simp
          try go_wp2_with fail
          refine hK.out _ _ ?_ (fun hHeld => ?_)
          · (try dsimp only)
            go_keep
          clear hK K
          try simp only [Act.put, List.setIfInBounds_toArray, List.set_cons_zero, List.set_cons_succ]
          refine wpAnyH_done (by kernel_rfl) ?_ _
          clear a0 a1 a2 a3 a4 b0 b1 b2 b3 b4 x0 x1 x2 x3 s0 s1 s2 s3 s4 t0 t1 t2 t3 t4
          go_wp2
          go_roundw
          case rel => exact ⟨i + 1, vb.n, R2, p2, c2, ls2, _, by omega, by omega, by go_num, by go_num, Lib.hid (RG.step HIN.out (HRA) HG4.out HB4.out.1 HB4.out.2.1 HB4.out.2.2 hp2)⟩
          case measure => simp [intOf]; omega
      · have him : i = va.n := by omega
        subst him
        by_cases hjb : j < vb.n
        · have j1 : (j : Int) < (vb.n : Int) := by omega
          have j2 : ¬ (j : Int) = (vb.n : Int) := by omega
          have j4 : ((j : Int) == (vb.n : Int)) = false := by simp only [beq_eq_false_iff_ne, ne_eq]; omega
          obtain ⟨gb, ob, hvB, _, hgb, hcb⟩ := HT1.out.1.mem (by omega)
          obtain ⟨y, Q, hy, hQ, hyv, hyr⟩ := HT1.out.2.get j (by rw [HRM.out.1]; omega)
          have HVB := Lib.hid hvB
          have HQ := Lib.hid (And.intro hQ hyv)
          have HYC0 := Lib.hid (hcb j y hy)
          have HYR : Hid (∀ w', Below wr.heap.size wr w' → Rw w' y.r Q.2 1900) := fun w' h => (hyr.below (HIN.out.below.trans (h.mono HIN.out.below.size))).more (by omega)
          have HSY := Lib.hid (hyr.sz (show 0 < 900 by omega))
          have HYC : Hid (∀ w', (wc.heap.size ≤ w'.heap.size ∧ Kept wc.heap.size X wc w') → At4 w' gb (ob + j * 4) y) := fun w' h => HYC0.out.keep ((h.2 gb (by omega) (by omega)).trans ((HX0.out.below.block gb (by omega)).trans (HWW.out.1.block gb hgb)))
          rw [hvB] at b1
          have n7 : ¬ gb = X := by omega
          have n8 : ¬ X = gb := by omega
          clear hy hQ hyv hyr hcb hvB
          obtain ⟨y0, y1, y2, y3⟩ := HYC.out _ HIN.out.sz
          have HRB : Hid (addL (L.drop va.n) (M.drop j) = lay1 y.v Q.2 ++ addL (L.drop va.n) (M.drop (j + 1)) ∧ va.n + j + 1 ≤ va.n + (j + 1)) := by
            refine ⟨?_, by omega⟩
            rw [List.drop_eq_nil_of_le (show L.length ≤ va.n by rw [← HRL.out.2, HRL.out.1]; omega)]
            exact rest_b HQ.out.1 HQ.out.2
          clear hia
          have i4 : ((va.n : Int) == (va.n : Int)) = true := beq_self_eq_true _
          go_wp2_with fail
          refine wp_region_held_drew (S := fun w' => w'.cell? ⟨w.heap.size, 1, none⟩ = some (.slice va.A va.n va.c) ∧ w'.cell? ⟨w.heap.size + 1, 1, none⟩ = some (.slice (some ⟨gb, ob, none⟩) vb.n vb.c) ∧ w'.cell? ⟨gb, ob + j * 4, none⟩ = some (.int .i64 y.v) ∧ w'.cell? ⟨gb, ob + j * 4 + 1, none⟩ = some (.bool y.r.s) ∧ w'.cell? ⟨gb, ob + j * 4 + 2, none⟩ = some (.slice y.r.A y.r.n y.r.c) ∧ w'.cell? ⟨gb, ob + j * 4 + 3, none⟩ = some (.slice y.r.B y.r.m y.r.d)) (by kernel_rfl) ?_ (fun hHeld => ?_)
          · (try dsimp only)
            go_keep
          refine wpAnyH_take (i := 0) (oi := { dst := some 56, op := Op.move (Operand.tmp 7), type := 3, pos := "aff.go:58", after := #[], guard := none }) (v := ?vq228x) rfl (by kernel_rfl) (by kernel_rfl) (by kernel_rfl) (fun _ _ _ h => h) (Or.inl ⟨by rfl, ?hyq228x⟩) (by assumption) ?restq228x
          case hyq228x =>
            intro w hSw
            (try dsimp only at hSw)
            go_simp
            all_goals (with_reducible rfl)
          try simp only [Act.put, List.setIfInBounds_toArray, List.set_cons_zero, List.set_cons_succ]
          refine wpAnyH_take (i := 1) (oi := { dst := some 57, op := Op.fieldAddr 27 (Operand.tmp 3) 1, type := 0, pos := "aff.go:58", after := #[], guard := none }) (v := ?vq229x) rfl (by kernel_rfl) (by kernel_rfl) (by kernel_rfl) (fun _ _ _ h => h) (Or.inl ⟨by rfl, ?hyq229x⟩) (by assumption) ?restq229x
          case hyq229x =>
            intro w hSw
            (try dsimp only at hSw)
            go_simp
            all_goals (with_reducible rfl)
          try simp only [Act.put, List.setIfInBounds_toArray, List.set_cons_zero, List.set_cons_succ]
          refine wpAnyH_take (i := 2) (oi := { dst := some 58, op := Op.load 22 (Operand.tmp 57), type := 22, pos := "aff.go:58", after := #[{ on := 1, ground := Ground.data }], guard := none }) (v := ?vq230x) rfl (by kernel_rfl) (by kernel_rfl) (by kernel_rfl) (fun _ _ _ h => h) (Or.inl ⟨by rfl, ?hyq230x⟩) (by assumption) ?restq230x
          case hyq230x =>
            intro w hSw
            (try dsimp only at hSw)
            go_simp
            all_goals (with_reducible rfl)
          try simp only [Act.put, List.setIfInBounds_toArray, List.set_cons_zero, List.set_cons_succ]
          refine wpAnyH_take (i := 3) (oi := { dst := some 59, op := Op.call { callee := Callee.builtin Builtin.len, args := #[Operand.tmp 58], argTypes := #[22] }, type := 3, pos := "aff.go:58", after := #[{ on := 2, ground := Ground.data }], guard := none }) (v := ?vq231x) rfl (by kernel_rfl) (by kernel_rfl) (by kernel_rfl) (fun _ _ _ h => h) (Or.inl ⟨by rfl, ?hyq231x⟩) (by assumption) ?restq231x
          case hyq231x =>
            intro w hSw
            (try dsimp only at hSw)
            go_simp
            all_goals (with_reducible rfl)
          try simp only [Act.put, List.setIfInBounds_toArray, List.set_cons_zero, List.set_cons_succ]
          refine wpAnyH_take (i := 4) (oi := { dst := some 60, op := Op.binOp BinOp.eql 3 (Operand.tmp 56) (Operand.tmp 59) 3, type := 4, pos := "aff.go:58", after := #[{ on := 0, ground := Ground.data }, { on := 3, ground := Ground.data }], guard := none }) (v := ?vq232x) rfl (by kernel_rfl) (by kernel_rfl) (by kernel_rfl) (fun _ _ _ h => h) (Or.inl ⟨by rfl, ?hyq232x⟩) (by assumption) ?restq232x
          case hyq232x =>
            intro w hSw
            (try dsimp only at hSw)
            go_simp
            all_goals (with_reducible rfl)
          try simp only [Act.put, List.setIfInBounds_toArray, List.set_cons_zero, List.set_cons_succ]
          refine wpAnyH_take (i := 5) (oi := { dst := some 61, op := Op.move (Operand.tmp 60), type := 4, pos := "aff.go:58", after := #[{ on := 4, ground := Ground.data }], guard := none }) (v := ?vq233x) rfl (by kernel_rfl) (by kernel_rfl) (by kernel_rfl) (fun _ _ _ h => h) (Or.inl ⟨by rfl, ?hyq233x⟩) (by assumption) ?restq233x
          case hyq233x =>
            intro w hSw
            (try dsimp only at hSw)
            go_simp
            all_goals (with_reducible rfl)
          try simp only [Act.put, List.setIfInBounds_toArray, List.set_cons_zero, List.set_cons_succ]
          refine wpAnyH_take (i := 6) (oi := { dst := some 62, op := Op.move (Operand.tmp 6), type := 3, pos := "aff.go:58", after := #[{ on := 5, ground := Ground.guard }], guard := some (5, false) }) (v := ?vq234x) rfl (by kernel_rfl) (by kernel_rfl) (by kernel_rfl) (fun _ _ _ h => h) (Or.inl ⟨by rfl, ?hyq234x⟩) (by assumption) ?restq234x
          case hyq234x =>
            intro w hSw
            (try dsimp only at hSw)
            go_simp
            all_goals (with_reducible rfl)
          try simp only [Act.put, List.setIfInBounds_toArray, List.set_cons_zero, List.set_cons_succ]
          refine wpAnyH_take (i := 7) (oi := { dst := some 63, op := Op.fieldAddr 27 (Operand.tmp 2) 1, type := 0, pos := "aff.go:58", after := #[{ on := 5, ground := Ground.guard }], guard := some (5, false) }) (v := ?vq235x) rfl (by kernel_rfl) (by kernel_rfl) (by kernel_rfl) (fun _ _ _ h => h) (Or.inl ⟨by rfl, ?hyq235x⟩) (by assumption) ?restq235x
          case hyq235x =>
            intro w hSw
            (try dsimp only at hSw)
            go_simp
            all_goals (with_reducible rfl)
          try simp only [Act.put, List.setIfInBounds_toArray, List.set_cons_zero, List.set_cons_succ]
          refine wpAnyH_take (i := 8) (oi := { dst := some 64, op := Op.load 22 (Operand.tmp 63), type := 22, pos := "aff.go:58", after := #[{ on := 7, ground := Ground.data }, { on := 5, ground := Ground.guard }], guard := some (5, false) }) (v := ?vq236x) rfl (by kernel_rfl) (by kernel_rfl) (by kernel_rfl) (fun _ _ _ h => h) (Or.inl ⟨by rfl, ?hyq236x⟩) (by assumption) ?restq236x
          case hyq236x =>
            intro w hSw
            (try dsimp only at hSw)
            go_simp
            all_goals (with_reducible rfl)
          try simp only [Act.put, List.setIfInBounds_toArray, List.set_cons_zero, List.set_cons_succ]
          refine wpAnyH_take (i := 9) (oi := { dst := some 65, op := Op.call { callee := Callee.builtin Builtin.len, args := #[Operand.tmp 64], argTypes := #[22] }, type := 3, pos := "aff.go:58", after := #[{ on := 8, ground := Ground.data }, { on := 5, ground := Ground.guard }], guard := some (5, false) }) (v := ?vq237x) rfl (by kernel_rfl) (by kernel_rfl) (by kernel_rfl) (fun _ _ _ h => h) (Or.inl ⟨by rfl, ?hyq237x⟩) (by assumption) ?restq237x
          case hyq237x =>
            intro w hSw
            (try dsimp only at hSw)
            go_simp
            all_goals (with_reducible rfl)
          try simp only [Act.put, List.setIfInBounds_toArray, List.set_cons_zero, List.set_cons_succ]
          refine wpAnyH_take (i := 10) (oi := { dst := some 66, op := Op.binOp BinOp.lss 3 (Operand.tmp 62) (Operand.tmp 65) 3, type := 4, pos := "aff.go:58", after := #[{ on := 6, ground := Ground.data }, { on := 9, ground := Ground.data }, { on := 5, ground := Ground.guard }], guard := some (5, false) }) (v := ?vq238x) rfl (by kernel_rfl) (by kernel_rfl) (by kernel_rfl) (fun _ _ _ h => h) (Or.inl ⟨by rfl, ?hyq238x⟩) (by assumption) ?restq238x
          case hyq238x =>
            intro w hSw
            (try dsimp only at hSw)
            go_simp
            all_goals (with_reducible rfl)
          try simp only [Act.put, List.setIfInBounds_toArray, List.set_cons_zero, List.set_cons_succ]
          refine wpAnyH_take (i := 11) (oi := { dst := some 67, op := Op.move (Operand.tmp 66), type := 4, pos := "aff.go:58", after := #[{ on := 10, ground := Ground.data }, { on := 5, ground := Ground.chain }, { on := 5, ground := Ground.guard }], guard := some (5, false) }) (v := ?vq239x) rfl (by kernel_rfl) (by kernel_rfl) (by kernel_rfl) (fun _ _ _ h => h) (Or.inl ⟨by rfl, ?hyq239x⟩) (by assumption) ?restq239x
          case hyq239x =>
            intro w hSw
            (try dsimp only at hSw)
            go_simp
            all_goals (with_reducible rfl)
          try simp only [Act.put, List.setIfInBounds_toArray, List.set_cons_zero, List.set_cons_succ]
          refine wpAnyH_take (i := 12) (oi := { dst := some 68, op := Op.fieldAddr 27 (Operand.tmp 2) 1, type := 0, pos := "aff.go:58", after := #[{ on := 11, ground := Ground.guard }], guard := some (11, true) }) (v := undef) rfl (by kernel_rfl) (by kernel_rfl) (by kernel_rfl) (fun _ _ _ h => h) (Or.inr ⟨by rfl, rfl⟩) (by assumption) ?_
          try simp only [Act.put, List.setIfInBounds_toArray, List.set_cons_zero, List.set_cons_succ]
          refine wpAnyH_take (i := 13) (oi := { dst := some 69, op := Op.load 22 (Operand.tmp 68), type := 22, pos := "aff.go:58", after := #[{ on := 12, ground := Ground.data }, { on := 11, ground := Ground.guard }], guard := some (11, true) }) (v := undef) rfl (by kernel_rfl) (by kernel_rfl) (by kernel_rfl) (fun _ _ _ h => h) (Or.inr ⟨by rfl, rfl⟩) (by assumption) ?_
          try simp only [Act.put, List.setIfInBounds_toArray, List.set_cons_zero, List.set_cons_succ]
          refine wpAnyH_take (i := 14) (oi := { dst := some 70, op := Op.move (Operand.tmp 6), type := 3, pos := "aff.go:58", after := #[{ on := 11, ground := Ground.guard }], guard := some (11, true) }) (v := undef) rfl (by kernel_rfl) (by kernel_rfl) (by kernel_rfl) (fun _ _ _ h => h) (Or.inr ⟨by rfl, rfl⟩) (by assumption) ?_
          try simp only [Act.put, List.setIfInBounds_toArray, List.set_cons_zero, List.set_cons_succ]
          refine wpAnyH_take (i := 15) (oi := { dst := some 71, op := Op.indexAddr 22 (Operand.tmp 69) (Operand.tmp 70), type := 0, pos := "aff.go:58", after := #[{ on := 13, ground := Ground.data }, { on := 14, ground := Ground.data }, { on := 11, ground := Ground.guard }], guard := some (11, true) }) (v := undef) rfl (by kernel_rfl) (by kernel_rfl) (by kernel_rfl) (fun _ _ _ h => h) (Or.inr ⟨by rfl, rfl⟩) (by assumption) ?_
          try simp only [Act.put, List.setIfInBounds_toArray, List.set_cons_zero, List.set_cons_succ]
          refine wpAnyH_take (i := 16) (oi := { dst := some 72, op := Op.fieldAddr 61 (Operand.tmp 71) 0, type := 0, pos := "aff.go:58", after := #[{ on := 15, ground := Ground.data }, { on := 11, ground := Ground.guard }], guard := some (11, true) }) (v := undef) rfl (by kernel_rfl) (by kernel_rfl) (by kernel_rfl) (fun _ _ _ h => h) (Or.inr ⟨by rfl, rfl⟩) (by assumption) ?_
          try simp only [Act.put, List.setIfInBounds_toArray, List.set_cons_zero, List.set_cons_succ]
          refine wpAnyH_take (i := 17) (oi := { dst := some 73, op := Op.load 3 (Operand.tmp 72), type := 3, pos := "aff.go:58", after := #[{ on := 16, ground := Ground.data }, { on := 11, ground := Ground.guard }], guard := some (11, true) }) (v := undef) rfl (by kernel_rfl) (by kernel_rfl) (by kernel_rfl) (fun _ _ _ h => h) (Or.inr ⟨by rfl, rfl⟩) (by assumption) ?_
          try simp only [Act.put, List.setIfInBounds_toArray, List.set_cons_zero, List.set_cons_succ]
          refine wpAnyH_take (i := 18) (oi := { dst := some 74, op := Op.fieldAddr 27 (Operand.tmp 3) 1, type := 0, pos := "aff.go:58", after := #[{ on := 11, ground := Ground.guard }], guard := some (11, true) }) (v := undef) rfl (by kernel_rfl) (by kernel_rfl) (by kernel_rfl) (fun _ _ _ h => h) (Or.inr ⟨by rfl, rfl⟩) (by assumption) ?_
          try simp only [Act.put, List.setIfInBounds_toArray, List.set_cons_zero, List.set_cons_succ]
          refine wpAnyH_take (i := 19) (oi := { dst := some 75, op := Op.load 22 (Operand.tmp 74), type := 22, pos := "aff.go:58", after := #[{ on := 18, ground := Ground.data }, { on := 11, ground := Ground.guard }], guard := some (11, true) }) (v := undef) rfl (by kernel_rfl) (by kernel_rfl) (by kernel_rfl) (fun _ _ _ h => h) (Or.inr ⟨by rfl, rfl⟩) (by assumption) ?_
          try simp only [Act.put, List.setIfInBounds_toArray, List.set_cons_zero, List.set_cons_succ]
          refine wpAnyH_take (i := 20) (oi := { dst := some 76, op := Op.move (Operand.tmp 7), type := 3, pos := "aff.go:58", after := #[{ on := 11, ground := Ground.guard }], guard := some (11, true) }) (v := undef) rfl (by kernel_rfl) (by kernel_rfl) (by kernel_rfl) (fun _ _ _ h => h) (Or.inr ⟨by rfl, rfl⟩) (by assumption) ?_
          try simp only [Act.put, List.setIfInBounds_toArray, List.set_cons_zero, List.set_cons_succ]
          refine wpAnyH_take (i := 21) (oi := { dst := some 77, op := Op.indexAddr 22 (Operand.tmp 75) (Operand.tmp 76), type := 0, pos := "aff.go:58", after := #[{ on := 19, ground := Ground.data }, { on := 20, ground := Ground.data }, { on := 11, ground := Ground.guard }], guard := some (11, true) }) (v := undef) rfl (by kernel_rfl) (by kernel_rfl) (by kernel_rfl) (fun _ _ _ h => h) (Or.inr ⟨by rfl, rfl⟩) (by assumption) ?_
          try simp only [Act.put, List.setIfInBounds_toArray, List.set_cons_zero, List.set_cons_succ]
          refine wpAnyH_take (i := 22) (oi := { dst := some 78, op := Op.fieldAddr 61 (Operand.tmp 77) 0, type := 0, pos := "aff.go:58", after := #[{ on := 21, ground := Ground.data }, { on := 11, ground := Ground.guard }], guard := some (11, true) }) (v := undef) rfl (by kernel_rfl) (by kernel_rfl) (by kernel_rfl) (fun _ _ _ h => h) (Or.inr ⟨by rfl, rfl⟩) (by assumption) ?_
          try simp only [Act.put, List.setIfInBounds_toArray, List.set_cons_zero, List.set_cons_succ]
          refine wpAnyH_take (i := 23) (oi := { dst := some 79, op := Op.load 3 (Operand.tmp 78), type := 3, pos := "aff.go:58", after := #[{ on := 22, ground := Ground.data }, { on := 11, ground := Ground.guard }], guard := some (11, true) }) (v := undef) rfl (by kernel_rfl) (by kernel_rfl) (by kernel_rfl) (fun _ _ _ h => h) (Or.inr ⟨by rfl, rfl⟩) (by assumption) ?_
          try simp only [Act.put, List.setIfInBounds_toArray, List.set_cons_zero, List.set_cons_succ]
          refine wpAnyH_take (i := 24) (oi := { dst := some 80, op := Op.binOp BinOp.lss 3 (Operand.tmp 73) (Operand.tmp 79) 3, type := 4, pos := "aff.go:58", after := #[{ on := 17, ground := Ground.data }, { on := 23, ground := Ground.data }, { on := 11, ground := Ground.guard }], guard := some (11, true) }) (v := undef) rfl (by kernel_rfl) (by kernel_rfl) (by kernel_rfl) (fun _ _ _ h => h) (Or.inr ⟨by rfl, rfl⟩) (by assumption) ?_
          try simp only [Act.put, List.setIfInBounds_toArray, List.set_cons_zero, List.set_cons_succ]
          refine wpAnyH_take (i := 25) (oi := { dst := some 81, op := Op.pick (Operand.tmp 67) (Operand.tmp 80) (Operand.const (Value.bool false)), type := 4, pos := "aff.go:58", after := #[{ on := 11, ground := Ground.data }, { on := 24, ground := Ground.data }, { on := 5, ground := Ground.guard }], guard := some (5, false) }) (v := ?vq240x) rfl (by kernel_rfl) (by kernel_rfl) (by kernel_rfl) (fun _ _ _ h => h) (Or.inl ⟨by rfl, ?hyq240x⟩) (by assumption) ?restq240x
          case hyq240x =>
            intro w hSw
            (try dsimp only at hSw)
            go_simp
            all_goals (with_reducible rfl)
          try simp only [Act.put, List.setIfInBounds_toArray, List.set_cons_zero, List.set_cons_succ]
          refine wpAnyH_take (i := 26) (oi := { dst := some 82, op := Op.pick (Operand.tmp 61) (Operand.const (Value.bool true)) (Operand.tmp 81), type := 4, pos := "aff.go:58", after := #[{ on := 5, ground := Ground.data }, { on := 25, ground := Ground.data }], guard := none }) (v := ?vq241x) rfl (by kernel_rfl) (by kernel_rfl) (by kernel_rfl) (fun _ _ _ h => h) (Or.inl ⟨by rfl, ?hyq241x⟩) (by assumption) ?restq241x
          case hyq241x =>
            intro w hSw
            (try dsimp only at hSw)
            go_simp
            all_goals (with_reducible rfl)
          try simp only [Act.put, List.setIfInBounds_toArray, List.set_cons_zero, List.set_cons_succ]
          refine wpAnyH_take (i := 27) (oi := { dst := some 55, op := Op.assign (Operand.tmp 82), type := 4, pos := "aff.go:58", after := #[{ on := 26, ground := Ground.data }, { on := 11, ground := Ground.chain }], guard := none }) (v := ?vq242x) rfl (by kernel_rfl) (by kernel_rfl) (by kernel_rfl) (fun _ _ _ h => h) (Or.inl ⟨by rfl, ?hyq242x⟩) (by assumption) ?restq242x
          case hyq242x =>
            intro w hSw
            (try dsimp only at hSw)
            go_simp
            all_goals (with_reducible rfl)
          try simp only [Act.put, List.setIfInBounds_toArray, List.set_cons_zero, List.set_cons_succ]
          refine wpAnyH_done (by kernel_rfl) ?_ _
          go_wp2_with fail
          refine wp_region_held_drew (S := fun w' => w'.cell? ⟨w.heap.size, 1, none⟩ = some (.slice va.A va.n va.c) ∧ w'.cell? ⟨w.heap.size + 1, 1, none⟩ = some (.slice (some ⟨gb, ob, none⟩) vb.n vb.c) ∧ w'.cell? ⟨gb, ob + j * 4, none⟩ = some (.int .i64 y.v) ∧ w'.cell? ⟨gb, ob + j * 4 + 1, none⟩ = some (.bool y.r.s) ∧ w'.cell? ⟨gb, ob + j * 4 + 2, none⟩ = some (.slice y.r.A y.r.n y.r.c) ∧ w'.cell? ⟨gb, ob + j * 4 + 3, none⟩ = some (.slice y.r.B y.r.m y.r.d)) (by kernel_rfl) ?_ (fun hHeld => ?_)
          · (try dsimp only)
            go_keep
          refine wpAnyH_take (i := 0) (oi := { dst := some 102, op := Op.move (Operand.tmp 6), type := 3, pos := "aff.go:61", after := #[], guard := none }) (v := ?vq220x) rfl (by kernel_rfl) (by kernel_rfl) (by kernel_rfl) (fun _ _ _ h => h) (Or.inl ⟨by rfl, ?hyq220x⟩) (by assumption) ?restq220x
          case hyq220x =>
            intro w hSw
            (try dsimp only at hSw)
            go_simp
            all_goals (with_reducible rfl)
          try simp only [Act.put, List.setIfInBounds_toArray, List.set_cons_zero, List.set_cons_succ]
          refine wpAnyH_take (i := 1) (oi := { dst := some 103, op := Op.fieldAddr 27 (Operand.tmp 2) 1, type := 0, pos := "aff.go:61", after := #[], guard := none }) (v := ?vq221x) rfl (by kernel_rfl) (by kernel_rfl) (by kernel_rfl) (fun _ _ _ h => h) (Or.inl ⟨by rfl, ?hyq221x⟩) (by assumption) ?restq221x
          case hyq221x =>
            intro w hSw
            (try dsimp only at hSw)
            go_simp
            all_goals (with_reducible rfl)
          try simp only [Act.put, List.setIfInBounds_toArray, List.set_cons_zero, List.set_cons_succ]
          refine wpAnyH_take (i := 2) (oi := { dst := some 104, op := Op.load 22 (Operand.tmp 103), type := 22, pos := "aff.go:61", after := #[{ on := 1, ground := Ground.data }], guard := none }) (v := ?vq222x) rfl (by kernel_rfl) (by kernel_rfl) (by kernel_rfl) (fun _ _ _ h => h) (Or.inl ⟨by rfl, ?hyq222x⟩) (by assumption) ?restq222x
          case hyq222x =>
            intro w hSw
            (try dsimp only at hSw)
            go_simp
            all_goals (with_reducible rfl)
          try simp only [Act.put, List.setIfInBounds_toArray, List.set_cons_zero, List.set_cons_succ]
          refine wpAnyH_take (i := 3) (oi := { dst := some 105, op := Op.call { callee := Callee.builtin Builtin.len, args := #[Operand.tmp 104], argTypes := #[22] }, type := 3, pos := "aff.go:61", after := #[{ on := 2, ground := Ground.data }], guard := none }) (v := ?vq223x) rfl (by kernel_rfl) (by kernel_rfl) (by kernel_rfl) (fun _ _ _ h => h) (Or.inl ⟨by rfl, ?hyq223x⟩) (by assumption) ?restq223x
          case hyq223x =>
            intro w hSw
            (try dsimp only at hSw)
            go_simp
            all_goals (with_reducible rfl)
          try simp only [Act.put, List.setIfInBounds_toArray, List.set_cons_zero, List.set_cons_succ]
          refine wpAnyH_take (i := 4) (oi := { dst := some 106, op := Op.binOp BinOp.eql 3 (Operand.tmp 102) (Operand.tmp 105) 3, type := 4, pos := "aff.go:61", after := #[{ on := 0, ground := Ground.data }, { on := 3, ground := Ground.data }], guard := none }) (v := ?vq224x) rfl (by kernel_rfl) (by kernel_rfl) (by kernel_rfl) (fun _ _ _ h => h) (Or.inl ⟨by rfl, ?hyq224x⟩) (by assumption) ?restq224x
          case hyq224x =>
            intro w hSw
            (try dsimp only at hSw)
            go_simp
            all_goals (with_reducible rfl)
          try simp only [Act.put, List.setIfInBounds_toArray, List.set_cons_zero, List.set_cons_succ]
          refine wpAnyH_take (i := 5) (oi := { dst := some 107, op := Op.move (Operand.tmp 106), type := 4, pos := "aff.go:61", after := #[{ on := 4, ground := Ground.data }], guard := none }) (v := ?vq225x) rfl (by kernel_rfl) (by kernel_rfl) (by kernel_rfl) (fun _ _ _ h => h) (Or.inl ⟨by rfl, ?hyq225x⟩) (by assumption) ?restq225x
          case hyq225x =>
            intro w hSw
            (try dsimp only at hSw)
            go_simp
            all_goals (with_reducible rfl)
          try simp only [Act.put, List.setIfInBounds_toArray, List.set_cons_zero, List.set_cons_succ]
          refine wpAnyH_take (i := 6) (oi := { dst := some 108, op := Op.fieldAddr 27 (Operand.tmp 3) 1, type := 0, pos := "aff.go:61", after := #[{ on := 5, ground := Ground.guard }], guard := some (5, false) }) (v := undef) rfl (by kernel_rfl) (by kernel_rfl) (by kernel_rfl) (fun _ _ _ h => h) (Or.inr ⟨by rfl, rfl⟩) (by assumption) ?_
          try simp only [Act.put, List.setIfInBounds_toArray, List.set_cons_zero, List.set_cons_succ]
          refine wpAnyH_take (i := 7) (oi := { dst := some 109, op := Op.load 22 (Operand.tmp 108), type := 22, pos := "aff.go:61", after := #[{ on := 6, ground := Ground.data }, { on := 5, ground := Ground.guard }], guard := some (5, false) }) (v := undef) rfl (by kernel_rfl) (by kernel_rfl) (by kernel_rfl) (fun _ _ _ h => h) (Or.inr ⟨by rfl, rfl⟩) (by assumption) ?_
          try simp only [Act.put, List.setIfInBounds_toArray, List.set_cons_zero, List.set_cons_succ]
          refine wpAnyH_take (i := 8) (oi := { dst := some 110, op := Op.move (Operand.tmp 7), type := 3, pos := "aff.go:61", after := #[{ on := 5, ground := Ground.guard }], guard := some (5, false) }) (v := undef) rfl (by kernel_rfl) (by kernel_rfl) (by kernel_rfl) (fun _ _ _ h => h) (Or.inr ⟨by rfl, rfl⟩) (by assumption) ?_
          try simp only [Act.put, List.setIfInBounds_toArray, List.set_cons_zero, List.set_cons_succ]
          refine wpAnyH_take (i := 9) (oi := { dst := some 111, op := Op.indexAddr 22 (Operand.tmp 109) (Operand.tmp 110), type := 0, pos := "aff.go:61", after := #[{ on := 7, ground := Ground.data }, { on := 8, ground := Ground.data }, { on := 5, ground := Ground.guard }], guard := some (5, false) }) (v := undef) rfl (by kernel_rfl) (by kernel_rfl) (by kernel_rfl) (fun _ _ _ h => h) (Or.inr ⟨by rfl, rfl⟩) (by assumption) ?_
          try simp only [Act.put, List.setIfInBounds_toArray, List.set_cons_zero, List.set_cons_succ]
          refine wpAnyH_take (i := 10) (oi := { dst := some 112, op := Op.fieldAddr 61 (Operand.tmp 111) 0, type := 0, pos := "aff.go:61", after := #[{ on := 9, ground := Ground.data }, { on := 5, ground := Ground.guard }], guard := some (5, false) }) (v := undef) rfl (by kernel_rfl) (by kernel_rfl) (by kernel_rfl) (fun _ _ _ h => h) (Or.inr ⟨by rfl, rfl⟩) (by assumption) ?_
          try simp only [Act.put, List.setIfInBounds_toArray, List.set_cons_zero, List.set_cons_succ]
          refine wpAnyH_take (i := 11) (oi := { dst := some 113, op := Op.load 3 (Operand.tmp 112), type := 3, pos := "aff.go:61", after := #[{ on := 10, ground := Ground.data }, { on := 5, ground := Ground.guard }], guard := some (5, false) }) (v := undef) rfl (by kernel_rfl) (by kernel_rfl) (by kernel_rfl) (fun _ _ _ h => h) (Or.inr ⟨by rfl, rfl⟩) (by assumption) ?_
          try simp only [Act.put, List.setIfInBounds_toArray, List.set_cons_zero, List.set_cons_succ]
          refine wpAnyH_take (i := 12) (oi := { dst := some 114, op := Op.fieldAddr 27 (Operand.tmp 2) 1, type := 0, pos := "aff.go:61", after := #[{ on := 5, ground := Ground.guard }], guard := some (5, false) }) (v := undef) rfl (by kernel_rfl) (by kernel_rfl) (by kernel_rfl) (fun _ _ _ h => h) (Or.inr ⟨by rfl, rfl⟩) (by assumption) ?_
          try simp only [Act.put, List.setIfInBounds_toArray, List.set_cons_zero, List.set_cons_succ]
          refine wpAnyH_take (i := 13) (oi := { dst := some 115, op := Op.load 22 (Operand.tmp 114), type := 22, pos := "aff.go:61", after := #[{ on := 12, ground := Ground.data }, { on := 5, ground := Ground.guard }], guard := some (5, false) }) (v := undef) rfl (by kernel_rfl) (by kernel_rfl) (by kernel_rfl) (fun _ _ _ h => h) (Or.inr ⟨by rfl, rfl⟩) (by assumption) ?_
          try simp only [Act.put, List.setIfInBounds_toArray, List.set_cons_zero, List.set_cons_succ]
          refine wpAnyH_take (i := 14) (oi := { dst := some 116, op := Op.move (Operand.tmp 6), type := 3, pos := "aff.go:61", after := #[{ on := 5, ground := Ground.guard }], guard := some (5, false) }) (v := undef) rfl (by kernel_rfl) (by kernel_rfl) (by kernel_rfl) (fun _ _ _ h => h) (Or.inr ⟨by rfl, rfl⟩) (by assumption) ?_
          try simp only [Act.put, List.setIfInBounds_toArray, List.set_cons_zero, List.set_cons_succ]
          refine wpAnyH_take (i := 15) (oi := { dst := some 117, op := Op.indexAddr 22 (Operand.tmp 115) (Operand.tmp 116), type := 0, pos := "aff.go:61", after := #[{ on := 13, ground := Ground.data }, { on := 14, ground := Ground.data }, { on := 5, ground := Ground.guard }], guard := some (5, false) }) (v := undef) rfl (by kernel_rfl) (by kernel_rfl) (by kernel_rfl) (fun _ _ _ h => h) (Or.inr ⟨by rfl, rfl⟩) (by assumption) ?_
          try simp only [Act.put, List.setIfInBounds_toArray, List.set_cons_zero, List.set_cons_succ]
          refine wpAnyH_take (i := 16) (oi := { dst := some 118, op := Op.fieldAddr 61 (Operand.tmp 117) 0, type := 0, pos := "aff.go:61", after := #[{ on := 15, ground := Ground.data }, { on := 5, ground := Ground.guard }], guard := some (5, false) }) (v := undef) rfl (by kernel_rfl) (by kernel_rfl) (by kernel_rfl) (fun _ _ _ h => h) (Or.inr ⟨by rfl, rfl⟩) (by assumption) ?_
          try simp only [Act.put, List.setIfInBounds_toArray, List.set_cons_zero, List.set_cons_succ]
          refine wpAnyH_take (i := 17) (oi := { dst := some 119, op := Op.load 3 (Operand.tmp 118), type := 3, pos := "aff.go:61", after := #[{ on := 16, ground := Ground.data }, { on := 5, ground := Ground.guard }], guard := some (5, false) }) (v := undef) rfl (by kernel_rfl) (by kernel_rfl) (by kernel_rfl) (fun _ _ _ h => h) (Or.inr ⟨by rfl, rfl⟩) (by assumption) ?_
          try simp only [Act.put, List.setIfInBounds_toArray, List.set_cons_zero, List.set_cons_succ]
          refine wpAnyH_take (i := 18) (oi := { dst := some 120, op := Op.binOp BinOp.lss 3 (Operand.tmp 113) (Operand.tmp 119) 3, type := 4, pos := "aff.go:61", after := #[{ on := 11, ground := Ground.data }, { on := 17, ground := Ground.data }, { on := 5, ground := Ground.guard }], guard := some (5, false) }) (v := undef) rfl (by kernel_rfl) (by kernel_rfl) (by kernel_rfl) (fun _ _ _ h => h) (Or.inr ⟨by rfl, rfl⟩) (by assumption) ?_
          try simp only [Act.put, List.setIfInBounds_toArray, List.set_cons_zero, List.set_cons_succ]
          refine wpAnyH_take (i := 19) (oi := { dst := some 121, op := Op.pick (Operand.tmp 107) (Operand.const (Value.bool true)) (Operand.tmp 120), type := 4, pos := "aff.go:61", after := #[{ on := 5, ground := Ground.data }, { on := 18, ground := Ground.data }], guard := none }) (v := ?vq226x) rfl (by kernel_rfl) (by kernel_rfl) (by kernel_rfl) (fun _ _ _ h => h) (Or.inl ⟨by rfl, ?hyq226x⟩) (by assumption) ?restq226x
          case hyq226x =>
            intro w hSw
            (try dsimp only at hSw)
            go_simp
            all_goals (with_reducible rfl)
          try simp only [Act.put, List.setIfInBounds_toArray, List.set_cons_zero, List.set_cons_succ]
          refine wpAnyH_take (i := 20) (oi := { dst := some 101, op := Op.assign (Operand.tmp 121), type := 4, pos := "aff.go:61", after := #[{ on := 19, ground := Ground.data }, { on := 5, ground := Ground.chain }], guard := none }) (v := ?vq227x) rfl (by kernel_rfl) (by kernel_rfl) (by kernel_rfl) (fun _ _ _ h => h) (Or.inl ⟨by rfl, ?hyq227x⟩) (by assumption) ?restq227x
          case hyq227x =>
            intro w hSw
            (try dsimp only at hSw)
            go_simp
            all_goals (with_reducible rfl)
          try simp only [Act.put, List.setIfInBounds_toArray, List.set_cons_zero, List.set_cons_succ]
          refine wpAnyH_done (by kernel_rfl) ?_ _
          go_wp2_with fail
          refine wp_region_held_drew (S := fun w' => w'.cell? ⟨w.heap.size, 1, none⟩ = some (.slice va.A va.n va.c) ∧ w'.cell? ⟨w.heap.size + 1, 1, none⟩ = some (.slice (some ⟨gb, ob, none⟩) vb.n vb.c) ∧ w'.cell? ⟨gb, ob + j * 4, none⟩ = some (.int .i64 y.v) ∧ w'.cell? ⟨gb, ob + j * 4 + 1, none⟩ = some (.bool y.r.s) ∧ w'.cell? ⟨gb, ob + j * 4 + 2, none⟩ = some (.slice y.r.A y.r.n y.r.c) ∧ w'.cell? ⟨gb, ob + j * 4 + 3, none⟩ = some (.slice y.r.B y.r.m y.r.d)) (by kernel_rfl) ?_ (fun hHeld => ?_)
          · (try dsimp only)
            go_keep
          refine wpAnyH_take (i := 0) (oi := { dst := some 122, op := Op.fieldAddr 27 (Operand.tmp 5) 1, type := 0, pos := "aff.go:62", after := #[], guard := none }) (v := ?vq206x) rfl (by kernel_rfl) (by kernel_rfl) (by kernel_rfl) (fun _ _ _ h => h) (Or.inl ⟨by rfl, ?hyq206x⟩) (by assumption) ?restq206x
          case hyq206x =>
            intro w hSw
            (try dsimp only at hSw)
            go_simp
            all_goals (with_reducible rfl)
          try simp only [Act.put, List.setIfInBounds_toArray, List.set_cons_zero, List.set_cons_succ]
          refine wpAnyH_take (i := 2) (oi := { dst := some 124, op := Op.fieldAddr 27 (Operand.tmp 3) 1, type := 0, pos := "aff.go:62", after := #[], guard := none }) (v := ?vq207x) rfl (by kernel_rfl) (by kernel_rfl) (by kernel_rfl) (fun _ _ _ h => h) (Or.inl ⟨by rfl, ?hyq207x⟩) (by assumption) ?restq207x
          case hyq207x =>
            intro w hSw
            (try dsimp only at hSw)
            go_simp
            all_goals (with_reducible rfl)
          try simp only [Act.put, List.setIfInBounds_toArray, List.set_cons_zero, List.set_cons_succ]
          refine wpAnyH_take (i := 3) (oi := { dst := some 125, op := Op.load 22 (Operand.tmp 124), type := 22, pos := "aff.go:62", after := #[{ on := 2, ground := Ground.data }], guard := none }) (v := ?vq208x) rfl (by kernel_rfl) (by kernel_rfl) (by kernel_rfl) (fun _ _ _ h => h) (Or.inl ⟨by rfl, ?hyq208x⟩) (by assumption) ?restq208x
          case hyq208x =>
            intro w hSw
            (try dsimp only at hSw)
            go_simp
            all_goals (with_reducible rfl)
          try simp only [Act.put, List.setIfInBounds_toArray, List.set_cons_zero, List.set_cons_succ]
          refine wpAnyH_take (i := 4) (oi := { dst := some 126, op := Op.move (Operand.tmp 7), type := 3, pos := "aff.go:62", after := #[], guard := none }) (v := ?vq209x) rfl (by kernel_rfl) (by kernel_rfl) (by kernel_rfl) (fun _ _ _ h => h) (Or.inl ⟨by rfl, ?hyq209x⟩) (by assumption) ?restq209x
          case hyq209x =>
            intro w hSw
            (try dsimp only at hSw)
            go_simp
            all_goals (with_reducible rfl)
          try simp only [Act.put, List.setIfInBounds_toArray, List.set_cons_zero, List.set_cons_succ]
          refine wpAnyH_take (i := 5) (oi := { dst := some 127, op := Op.indexAddr 22 (Operand.tmp 125) (Operand.tmp 126), type := 0, pos := "aff.go:62", after := #[{ on := 3, ground := Ground.data }, { on := 4, ground := Ground.data }], guard := none }) (v := ?vq210x) rfl (by kernel_rfl) (by kernel_rfl) (by kernel_rfl) (fun _ _ _ h => h) (Or.inl ⟨by rfl, ?hyq210x⟩) (by assumption) ?restq210x
          case hyq210x =>
            intro w hSw
            (try dsimp only at hSw)
            go_simp
            all_goals (with_reducible rfl)
          try simp only [Act.put, List.setIfInBounds_toArray, List.set_cons_zero, List.set_cons_succ]
          refine wpAnyH_take (i := 6) (oi := { dst := some 128, op := Op.fieldAddr 61 (Operand.tmp 127) 0, type := 0, pos := "aff.go:62", after := #[{ on := 5, ground := Ground.data }], guard := none }) (v := ?vq211x) rfl (by kernel_rfl) (by kernel_rfl) (by kernel_rfl) (fun _ _ _ h => h) (Or.inl ⟨by rfl, ?hyq211x⟩) (by assumption) ?restq211x
          case hyq211x =>
            intro w hSw
            (try dsimp only at hSw)
            go_simp
            all_goals (with_reducible rfl)
          try simp only [Act.put, List.setIfInBounds_toArray, List.set_cons_zero, List.set_cons_succ]
          refine wpAnyH_take (i := 7) (oi := { dst := some 129, op := Op.load 3 (Operand.tmp 128), type := 3, pos := "aff.go:62", after := #[{ on := 6, ground := Ground.data }], guard := none }) (v := ?vq212x) rfl (by kernel_rfl) (by kernel_rfl) (by kernel_rfl) (fun _ _ _ h => h) (Or.inl ⟨by rfl, ?hyq212x⟩) (by assumption) ?restq212x
          case hyq212x =>
            intro w hSw
            (try dsimp only at hSw)
            go_simp
            all_goals (with_reducible rfl)
          try simp only [Act.put, List.setIfInBounds_toArray, List.set_cons_zero, List.set_cons_succ]
          refine wpAnyH_take (i := 8) (oi := { dst := some 130, op := Op.fieldAddr 27 (Operand.tmp 3) 1, type := 0, pos := "aff.go:62", after := #[], guard := none }) (v := ?vq213x) rfl (by kernel_rfl) (by kernel_rfl) (by kernel_rfl) (fun _ _ _ h => h) (Or.inl ⟨by rfl, ?hyq213x⟩) (by assumption) ?restq213x
          case hyq213x =>
            intro w hSw
            (try dsimp only at hSw)
            go_simp
            all_goals (with_reducible rfl)
          try simp only [Act.put, List.setIfInBounds_toArray, List.set_cons_zero, List.set_cons_succ]
          refine wpAnyH_take (i := 9) (oi := { dst := some 131, op := Op.load 22 (Operand.tmp 130), type := 22, pos := "aff.go:62", after := #[{ on := 8, ground := Ground.data }], guard := none }) (v := ?vq214x) rfl (by kernel_rfl) (by kernel_rfl) (by kernel_rfl) (fun _ _ _ h => h) (Or.inl ⟨by rfl, ?hyq214x⟩) (by assumption) ?restq214x
          case hyq214x =>
            intro w hSw
            (try dsimp only at hSw)
            go_simp
            all_goals (with_reducible rfl)
          try simp only [Act.put, List.setIfInBounds_toArray, List.set_cons_zero, List.set_cons_succ]
          refine wpAnyH_take (i := 10) (oi := { dst := some 132, op := Op.move (Operand.tmp 7), type := 3, pos := "aff.go:62", after := #[], guard := none }) (v := ?vq215x) rfl (by kernel_rfl) (by kernel_rfl) (by kernel_rfl) (fun _ _ _ h => h) (Or.inl ⟨by rfl, ?hyq215x⟩) (by assumption) ?restq215x
          case hyq215x =>
            intro w hSw
            (try dsimp only at hSw)
            go_simp
            all_goals (with_reducible rfl)
          try simp only [Act.put, List.setIfInBounds_toArray, List.set_cons_zero, List.set_cons_succ]
          refine wpAnyH_take (i := 11) (oi := { dst := some 133, op := Op.indexAddr 22 (Operand.tmp 131) (Operand.tmp 132), type := 0, pos := "aff.go:62", after := #[{ on := 9, ground := Ground.data }, { on := 10, ground := Ground.data }], guard := none }) (v := ?vq216x) rfl (by kernel_rfl) (by kernel_rfl) (by kernel_rfl) (fun _ _ _ h => h) (Or.inl ⟨by rfl, ?hyq216x⟩) (by assumption) ?restq216x
          case hyq216x =>
            intro w hSw
            (try dsimp only at hSw)
            go_simp
            all_goals (with_reducible rfl)
          try simp only [Act.put, List.setIfInBounds_toArray, List.set_cons_zero, List.set_cons_succ]
          refine wpAnyH_take (i := 12) (oi := { dst := some 134, op := Op.fieldAddr 61 (Operand.tmp 133) 1, type := 0, pos := "aff.go:62", after := #[{ on := 11, ground := Ground.data }], guard := none }) (v := ?vq217x) rfl (by kernel_rfl) (by kernel_rfl) (by kernel_rfl) (fun _ _ _ h => h) (Or.inl ⟨by rfl, ?hyq217x⟩) (by assumption) ?restq217x
          case hyq217x =>
            intro w hSw
            (try dsimp only at hSw)
            go_simp
            all_goals (with_reducible rfl)
          try simp only [Act.put, List.setIfInBounds_toArray, List.set_cons_zero, List.set_cons_succ]
          refine wpAnyH_take (i := 13) (oi := { dst := some 135, op := Op.load 25 (Operand.tmp 134), type := 25, pos := "aff.go:62", after := #[{ on := 12, ground := Ground.data }], guard := none }) (v := ?vq218x) rfl (by kernel_rfl) (by kernel_rfl) (by kernel_rfl) (fun _ _ _ h => h) (Or.inl ⟨by rfl, ?hyq218x⟩) (by assumption) ?restq218x
          case hyq218x =>
            intro w hSw
            (try dsimp only at hSw)
            go_simp
            all_goals (with_reducible rfl)
          try simp only [Act.put, List.setIfInBounds_toArray, List.set_cons_zero, List.set_cons_succ]
          refine wpAnyH_ready (rs := [1]) (by kernel_rfl) (by simp) ?_
          refine AllReadyH.cons (o := { dst := some 123, op := Op.load 22 (Operand.tmp 122), type := 22, pos := "aff.go:62", after := #[{ on := 0, ground := Ground.data }], guard := none }) rfl (fun K hK => ?_) AllReadyH.nil
          try go_simp
          try go_wp2_with fail
          refine hK.out _ _ ?_ (fun hHeld => ?_)
          · (try dsimp only)
            go_keep
          clear hK K
          try simp only [Act.put, List.setIfInBounds_toArray, List.set_cons_zero, List.set_cons_succ]
          refine wpAnyH_ready (rs := [14]) (by kernel_rfl) (by simp) ?_
          refine AllReadyH.cons (o := { dst := some 136, op := Op.call { callee := Callee.value (Operand.func 36), args := #[Operand.tmp 123, Operand.tmp 129, Operand.tmp 135], argTypes := #[22, 3, 25] }, type := 22, pos := "aff.go:62", after := #[{ on := 1, ground := Ground.data }, { on := 7, ground := Ground.data }, { on := 13, ground := Ground.data }], guard := none }) rfl (fun K hK => ?_) AllReadyH.nil
          try go_simp
          go_at_call 36
          refine (lay_c R p e wc.heap.size ls D y.v y.r Q.2 _ (HIN.out.gr.below (bel_n wr 3)) ((HYR.out _ (bel_n wr 3)).more (by omega)) (by omega) (Nat.le_trans HIN.out.sz.1 ((bel_n wr 3)).size)).mono ?_
          rintro ee w4 ⟨R2, c2, p2, ls2, rfl, hp2, hg2, hb, _, _⟩
          have hk := kept_lo (kept_below (bel_n wr 3) HIN.out.sz) hb
          clear a0 a1 a2 a3 a4 b0 b1 b2 b3 b4 y0 y1 y2 y3 s0 s1 s2 s3 s4 t0 t1 t2 t3 t4
          obtain ⟨a0, a1, a2, a3, a4⟩ := (HALL0.out _ hk).1.facts
          obtain ⟨b0, b1, b2, b3, b4⟩ := (HALL0.out _ hk).2.1.facts
          rw [HVB.out] at b1
          obtain ⟨y0, y1, y2, y3⟩ := HYC.out _ hk
          obtain ⟨s0, s1, s2, s3, s4⟩ := ((HBEL.out _ (bel_n wr 3)).at hb HX0.out.lt).facts
          obtain ⟨t0, t1, t2, t3, t4⟩ := ((HBEL.out _ (bel_n wr 3)).at hb HX0.out.lt).thaw
          have HG4 := Lib.hid hg2
          have HB4 := Lib.hid (And.intro hk (And.intro (bel_n wr 3) hb))
          clear hb hk hg2
          try go_wp2_with fail
          refine hK.out _ _ ?_ (fun hHeld => ?_)
          · (try dsimp only)
            go_keep
          clear hK K
          try simp only [Act.put, List.setIfInBounds_toArray, List.set_cons_zero, List.set_cons_succ]
          refine wpAnyH_take (i := 15) (oi := { dst := some 137, op := Op.fieldAddr 27 (Operand.tmp 5) 1, type := 0, pos := "aff.go:62", after := #[{ on := 0, ground := Ground.phase }, { on := 1, ground := Ground.phase }, { on := 2, ground := Ground.phase }, { on := 3, ground := Ground.phase }, { on := 4, ground := Ground.phase }, { on := 5, ground := Ground.phase }, { on := 6, ground := Ground.phase }, { on := 7, ground := Ground.phase }, { on := 8, ground := Ground.phase }, { on := 9, ground := Ground.phase }, { on := 10, ground := Ground.phase }, { on := 11, ground := Ground.phase }, { on := 12, ground := Ground.phase }, { on := 13, ground := Ground.phase }, { on := 14, ground := Ground.phase }], guard := none }) (v := ?vq219x) rfl (by kernel_rfl) (by kernel_rfl) (by kernel_rfl) (fun _ _ _ h => h) (Or.inl ⟨by rfl, ?hyq219x⟩) (by assumption) ?restq219x
          case hyq219x =>
            intro w hSw
            (try dsimp only at hSw)
            go_simp
            all_goals (with_reducible rfl)
          try simp only [Act.put, List.setIfInBounds_toArray, List.set_cons_zero, List.set_cons_succ]
          refine wpAnyH_ready (rs := [16]) (by kernel_rfl) (by simp) ?_
          refine AllReadyH.cons (o := { dst := none, op := Op.store 22 (Operand.tmp 137) (Operand.tmp 136), type := 0, pos := "aff.go:62", after := #[{ on := 15, ground := Ground.data }, { on := 14, ground := Ground.data }, { on := 14, ground := Ground.chain }, { on := 0, ground := Ground.phase }, { on := 1, ground := Ground.phase }, { on := 2, ground := Ground.phase }, { on := 3, ground := Ground.phase }, { on := 4, ground := Ground.phase }, { on := 5, ground := Ground.phase }, { on := 6, ground := Ground.phase }, { on := 7, ground := Ground.phase }, { on := 8, ground := Ground.phase }, { on := 9, ground := Ground.phase }, { on := 10, ground := Ground.phase }, { on := 11, ground := Ground.phase }, { on := 12, ground := Ground.phase }, { on := 13, ground := Ground.phase }, { on := 14, ground := Ground.phase }], guard := none }) rfl (fun K hK => ?_) AllReadyH.nil
          try go_simp
          try go_wp2_with fail
          refine hK.out _ _ ?_ (fun hHeld => ?_)
          · (try dsimp only)
            go_keep
          clear hK K
          try simp only [Act.put, List.setIfInBounds_toArray, List.set_cons_zero, List.set_cons_succ]
          refine wpAnyH_done (by kernel_rfl) ?_ _
          clear a0 a1 a2 a3 a4 b0 b1 b2 b3 b4 y0 y1 y2 y3 s0 s1 s2 s3 s4 t0 t1 t2 t3 t4
          go_wp2
          go_roundw
          case rel => exact ⟨va.n, j + 1, R2, p2, c2, ls2, _, by omega, by omega, by go_num, by go_num, Lib.hid (RG.step HIN.out (HRB) HG4.out HB4.out.1 HB4.out.2.1 HB4.out.2.2 hp2)⟩
          case measure => simp [intOf]; omega
        · have hjm : j = vb.n := by omega
          subst hjm
          have heq := HIN.out.eq
          rw [List.drop_eq_nil_of_le (show L.length ≤ va.n by rw [← HRL.out.2, HRL.out.1]; omega), List.drop_eq_nil_of_le (show M.length ≤ vb.n by rw [← HRM.out.2, HRM.out.1]; omega), addL, List.append_nil] at heq
          have HQ := Lib.hid heq
          clear heq hia hjb
          have kz := (HALL0.out _ HIN.out.sz).2.2
          have HN := Lib.hid (HX0.out.num _ HIN.out.sz.1 HIN.out.sz.2)
          obtain ⟨q0, q1, q2, q3, q4⟩ := kz.facts
          clear t0 t1 t2 t3 t4
          obtain ⟨t0, t1, t2, t3, t4⟩ := kz.thaw
          have hne : ¬ X = w.heap.size + 1 + 1 := by omega
          have hne' : ¬ w.heap.size + 1 + 1 = X := by omega
          go_wp2
          refine ret5 (fn := Tryz.f14) Tryz.results14 rfl rfl kz ?_
          refine ⟨⟨va.s, R, p, e, zk⟩, rfl, rfl, by show p ≤ _; omega, ?_, HIN.out.below.trans (put5_below (by omega) _ _ _ _ _)⟩
          rw [HQ.out]
          exact (Ct.of HIN.out.gr.own.capLe (HIN.out.gr.own.tms.lower (show w.heap.size + 3 ≤ wc.heap.size by omega)) (RdN.lower (show w.heap.size + 3 ≤ wc.heap.size by omega) HIN.out.gr.rd.rdn) (HN.out.lower (by omega)) (by omega)).lower (by omega)
end Go.Proofs.YtffnjdfmaebmhaaGreatDoor
