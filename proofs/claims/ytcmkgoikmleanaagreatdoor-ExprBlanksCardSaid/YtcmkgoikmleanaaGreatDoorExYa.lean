/-
  The document's reader: what it holds; its leaves.
-/
import Derived.Test.YtcmkgoikmleanaaGreatDoorMEd
namespace Go.Proofs.YtcmkgoikmleanaaGreatDoor
set_option maxRecDepth 20000
open Go.RowKit

/-- What the document's reader holds, in a world that stands as w0 below. -/
structure RRd (w0 : World) (g : Nat) (S : ByteArray) (w : World) (p e b d : Nat) (lg : Bool) : Prop where
  ge : w0.heap.size ≤ g
  below : Below w0.heap.size w0 w
  blk : w.heap[g]? = some (.cells #[.string S, .int .i64 p, .int .i64 e, .int .i64 b, .int .i64 d, .bool lg] 54 (0, 0))
section
variable {w0 w w' : World} {g p e b d : Nat} {lg : Bool} {S : ByteArray}
theorem RRd.lt (h : RRd w0 g S w p e b d lg) : g < w.heap.size := by
  rcases Nat.lt_or_ge g w.heap.size with h1 | h1
  · exact h1
  · have : w.heap[g]? = none := Array.getElem?_eq_none h1
    rw [h.blk] at this; cases this
theorem RRd.facts (h : RRd w0 g S w p e b d lg) : w.cell? ⟨g, 0, none⟩ = some (.string S) ∧ w.cell? ⟨g, 1, none⟩ = some (.int .i64 p) ∧ w.cell? ⟨g, 2, none⟩ = some (.int .i64 e) ∧ w.cell? ⟨g, 3, none⟩ = some (.int .i64 b) ∧ w.cell? ⟨g, 4, none⟩ = some (.int .i64 d) ∧ w.cell? ⟨g, 5, none⟩ = some (.bool lg) := by
  have h' := h.blk
  refine ⟨?_, ?_, ?_, ?_, ?_, ?_⟩ <;> simp [World.cell?, h']
theorem RRd.thaw (h : RRd w0 g S w p e b d lg) : w.frozen? ⟨g, 1, none⟩ = false ∧ w.frozen? ⟨g, 2, none⟩ = false ∧ w.frozen? ⟨g, 3, none⟩ = false ∧ w.frozen? ⟨g, 4, none⟩ = false ∧ w.frozen? ⟨g, 5, none⟩ = false := by
  have h' := h.blk
  refine ⟨?_, ?_, ?_, ?_, ?_⟩ <;> simp [World.frozen?, h']
theorem RRd.next (h : RRd w0 g S w p e b d lg) (hb : Below w.heap.size w w') : RRd w0 g S w' p e b d lg :=
  ⟨h.ge, h.below.trans (hb.mono h.below.size), (hb.block g h.lt).trans h.blk⟩
theorem RRd.alloc (h : RRd w0 g S w p e b d lg) (o : Obj) : RRd w0 g S (w.alloc o) p e b d lg := h.next ((Below.refl _ _).alloc (Nat.le_refl _) o)
theorem RRd.drew (h : RRd w0 g S w p e b d lg) : RRd w0 g S w.drew p e b d lg := h.next ⟨rfl, rfl, rfl, Nat.le_refl _, fun _ _ => rfl⟩
theorem RRd.drewN (h : RRd w0 g S w p e b d lg) (k : Nat) : RRd w0 g S (w.drewN k) p e b d lg := h.next (below_drewN' _ w k)
theorem RRd.other (h : RRd w0 g S w p e b d lg) {c : Nat} (hg : c ≠ g) (hb : w0.heap.size ≤ c) (j : Nat) (x : Value) : RRd w0 g S (w.setCell ⟨c, j, none⟩ x) p e b d lg :=
  ⟨h.ge, h.below.trans (((But.refl c w).set j x).below hb h.below.size), (((But.refl c w).set j x).block g h.lt (Ne.symm hg)).trans h.blk⟩
theorem RRd.put (h : RRd w0 g S w p e b d lg) {c : Nat} (hg : c ≠ g) (hb : w0.heap.size ≤ c) (x0 x1 x2 x3 x4 x5 : Value) : RRd w0 g S (put6 w c x0 x1 x2 x3 x4 x5) p e b d lg :=
  (((((h.other hg hb _ _).other hg hb _ _).other hg hb _ _).other hg hb _ _).other hg hb _ _).other hg hb _ _
theorem RRd.set1 (h : RRd w0 g S w p e b d lg) {q : Nat} {v : Int} (hv : v = (q : Int)) : RRd w0 g S (w.setCell ⟨g, 1, none⟩ (.int .i64 v)) q e b d lg := by
  subst hv
  refine ⟨h.ge, h.below.trans (((But.refl g w).set _ _).below h.ge h.below.size), ?_⟩
  show (w.heap.modify g _)[g]? = _
  rw [Array.getElem?_modify, if_pos rfl, h.blk]; rfl
theorem RRd.set2 (h : RRd w0 g S w p e b d lg) {q : Nat} {v : Int} (hv : v = (q : Int)) : RRd w0 g S (w.setCell ⟨g, 2, none⟩ (.int .i64 v)) p q b d lg := by
  subst hv
  refine ⟨h.ge, h.below.trans (((But.refl g w).set _ _).below h.ge h.below.size), ?_⟩
  show (w.heap.modify g _)[g]? = _
  rw [Array.getElem?_modify, if_pos rfl, h.blk]; rfl
theorem RRd.set3 (h : RRd w0 g S w p e b d lg) {q : Nat} {v : Int} (hv : v = (q : Int)) : RRd w0 g S (w.setCell ⟨g, 3, none⟩ (.int .i64 v)) p e q d lg := by
  subst hv
  refine ⟨h.ge, h.below.trans (((But.refl g w).set _ _).below h.ge h.below.size), ?_⟩
  show (w.heap.modify g _)[g]? = _
  rw [Array.getElem?_modify, if_pos rfl, h.blk]; rfl
theorem RRd.set4 (h : RRd w0 g S w p e b d lg) {q : Nat} {v : Int} (hv : v = (q : Int)) : RRd w0 g S (w.setCell ⟨g, 4, none⟩ (.int .i64 v)) p e b q lg := by
  subst hv
  refine ⟨h.ge, h.below.trans (((But.refl g w).set _ _).below h.ge h.below.size), ?_⟩
  show (w.heap.modify g _)[g]? = _
  rw [Array.getElem?_modify, if_pos rfl, h.blk]; rfl
theorem RRd.set5 (h : RRd w0 g S w p e b d lg) (q : Bool) : RRd w0 g S (w.setCell ⟨g, 5, none⟩ (.bool q)) p e b d q := by
  refine ⟨h.ge, h.below.trans (((But.refl g w).set _ _).below h.ge h.below.size), ?_⟩
  show (w.heap.modify g _)[g]? = _
  rw [Array.getElem?_modify, if_pos rfl, h.blk]; rfl
end
theorem RRd.atOf {w0 w : World} {g p e b d : Nat} {lg : Bool} {S : ByteArray} (h : RRd w0 g S w p e b d lg) : atOf g w = p := by
  unfold Go.Proofs.YtcmkgoikmleanaaGreatDoor.atOf; rw [h.facts.2.1]; rfl

set_option maxHeartbeats 3200000 in
theorem rblanks_c {w0 w : World} {g p e b d : Nat} {lg : Bool} {S : ByteArray} (h : RRd w0 g S w p e b d lg) (hp : p ≤ S.size) (hs : S.size ≤ 100000) :
    Calls Tryz.prog 25 #[.pointer (some ⟨g, 0, none⟩)] w fun z w' => z = .returned (.tuple #[]) ∧ RRd w0 g S w' (skp S p) e b d lg ∧ But g w w' := by
  have hq := skp_le S p
  have hq2 := skp_ge S hp
  have HI : Hid (∀ j, p ≤ j → j < skp S p → j < S.size ∧ (bt S j).toNat = 32) := fun j => skp_in
  have HO : Hid (skp S p < S.size → (bt S (skp S p)).toNat ≠ 32) := fun h => skp_out hp h
  generalize skp S p = q at *
  go_enter Tryz.func25, Tryz.ntmps25
  go_wp2
  go_loopw [] (fun wr => ∃ x : Nat, p ≤ x ∧ x ≤ q ∧ RRd w0 g S wr x e b d lg ∧ But g w wr) (fun wr => q - atOf g wr)
  case atStart => exact ⟨p, Nat.le_refl _, hq, h, But.refl _ _⟩
  case round =>
    obtain ⟨x, hx1, hx2, hr, hbu⟩ := hrel
    obtain ⟨h0, h1, h2, h3, h4, h5⟩ := hr.facts
    obtain ⟨f1, f2, f3, f4, f5⟩ := hr.thaw
    by_cases hxq : x < q
    · obtain ⟨hl, hv⟩ := HI.out x hx1 hxq
      have i1 : (x : Int) < (S.size : Int) := by omega
      have i0 : (0 : Int) ≤ (x : Int) := by omega
      have i2 : (x : Int) ≤ 100000 := by omega
      rw [bt_lt hl] at hv
      go_wp2
      go_quiet (fail)
      go_wp2
      go_roundw
      case rel => exact ⟨x + 1, by omega, by omega, (hr.drewN _).set1 (by omega), (hbu.drewN _).set _ _⟩
      case measure =>
        rw [((hr.drewN _).set1 (q := x + 1) (v := (x : Int) + 1) (by omega)).atOf, hr.atOf]; omega
    · have e : x = q := by omega
      subst e
      by_cases hl : x < S.size
      · have i1 : (x : Int) < (S.size : Int) := by omega
        have i0 : (0 : Int) ≤ (x : Int) := by omega
        have hv := HO.out hl
        rw [bt_lt hl] at hv
        have j1 : ¬ ((S[x].toNat : Int) = 32) := by omega
        have j2 : (((S[x].toNat : Int)) == 32) = false := beq_eq_false_iff_ne.2 j1
        go_wp2
        go_quiet (fail)
        go_wp2
        go_end0
        exact ⟨rfl, hr.drewN _, hbu.drewN _⟩
      · have i1 : ¬ (x : Int) < (S.size : Int) := by omega
        go_wp2
        go_quiet (fail)
        go_wp2
        go_end0
        exact ⟨rfl, hr.drewN _, hbu.drewN _⟩
set_option maxHeartbeats 1600000 in
theorem rnext_ok {w0 w : World} {g p d : Nat} {lg : Bool} {S : ByteArray} (h : RRd w0 g S w p 0 0 d lg) (hp : p ≤ S.size) (hs : S.size ≤ 100000) :
    Calls Tryz.prog 43 #[.pointer (some ⟨g, 0, none⟩)] w fun z w' => z = .returned (.int .u8 (bt S (skp S p)).toNat) ∧ RRd w0 g S w' (skp S p) 0 0 d lg ∧ But g w w' := by
  have hq2 := skp_ge S hp
  have HB := Lib.hid (rblanks_c h hp hs)
  generalize skp S p = q at *
  go_enter Tryz.func43, Tryz.ntmps43
  go_wp2_with fail
  refine HB.out.mono ?_
  rintro z w1 ⟨rfl, hr, hb⟩
  obtain ⟨h0, h1, h2, h3, h4, h5⟩ := hr.facts
  by_cases hl : q < S.size
  · have i1 : (q : Int) < (S.size : Int) := by omega
    have i3 : ¬ ((S.size : Int) ≤ (q : Int)) := by omega
    have i0 : (0 : Int) ≤ (q : Int) := by omega
    go_wp2_with fail
    go_quiet (fail)
    go_wp2
    go_quiet (fail)
    go_wp2
    go_ret
    exact ⟨by rw [bt_lt hl]; rfl, (hr.drewN _).drewN _, (hb.drewN _).drewN _⟩
  · have i1 : (S.size : Int) ≤ (q : Int) := by omega
    go_wp2_with fail
    go_quiet (fail)
    go_wp2
    go_ret
    exact ⟨by rw [bt_ge (by omega)]; rfl, hr.drewN _, hb.drewN _⟩
set_option maxHeartbeats 1600000 in
theorem rnext_err {w0 w : World} {g p e b d : Nat} {lg : Bool} {S : ByteArray} (h : RRd w0 g S w p e b d lg) (he : e = 2 ∨ e = 4) (hp : p ≤ S.size) (hs : S.size ≤ 100000) :
    Calls Tryz.prog 43 #[.pointer (some ⟨g, 0, none⟩)] w fun z w' => z = .returned (.int .u8 0) ∧ RRd w0 g S w' (skp S p) e b d lg ∧ But g w w' := by
  have i0 : ¬ ((e : Int) = 0) := by omega
  have i1 : ((e : Int) != 0) = true := by rw [bne_iff_ne]; exact i0
  clear he
  have HB := Lib.hid (rblanks_c h hp hs)
  generalize skp S p = q at *
  go_enter Tryz.func43, Tryz.ntmps43
  go_wp2_with fail
  refine HB.out.mono ?_
  rintro z w1 ⟨rfl, hr, hb⟩
  obtain ⟨h0, h1, h2, h3, h4, h5⟩ := hr.facts
  go_wp2_with fail
  go_quiet (fail)
  go_wp2
  go_ret
  exact ⟨rfl, hr.drewN _, hb.drewN _⟩
set_option maxHeartbeats 800000 in
theorem rfail_ok {w0 w : World} {g p d : Nat} {lg : Bool} {S : ByteArray} (c : Nat) (h : RRd w0 g S w p 0 0 d lg) :
    Calls Tryz.prog 26 #[.pointer (some ⟨g, 0, none⟩), .int .i64 c] w fun z w' => z = .returned (.agg #[.int .i64 0, .bool false, .slice none 0 0, .slice none 0 0, .string ⟨#[]⟩, .slice none 0 0]) ∧ RRd w0 g S w' p c p d lg ∧ But g w w' := by
  have hgl := h.lt
  have h' := h.alloc (.cells #[.int .i64 0, .bool false, .slice none 0 0, .slice none 0 0, .string ⟨#[]⟩, .slice none 0 0] 27)
  have hb := (But.refl g w).alloc (.cells #[.int .i64 0, .bool false, .slice none 0 0, .slice none 0 0, .string ⟨#[]⟩, .slice none 0 0] 27)
  obtain ⟨h0, h1, h2, h3, h4, h5⟩ := h.facts
  obtain ⟨f1, f2, f3, f4, f5⟩ := h.thaw
  go_enter Tryz.func26, Tryz.ntmps26
  go_wp2
  refine ret6c (fn := Tryz.f26) Tryz.results26 rfl rfl (C6.newAt _ _ _ _ _ _ (by simp)) ?_
  exact ⟨rfl, ((h.set2 (q := c) rfl).set3 (q := p) rfl).alloc _, (((But.refl g w).set _ _).set _ _).alloc _⟩
set_option maxHeartbeats 800000 in
theorem rfail_err {w0 w : World} {g p e b d : Nat} {lg : Bool} {S : ByteArray} (c : Nat) (h : RRd w0 g S w p e b d lg) (he : e = 2 ∨ e = 4) :
    Calls Tryz.prog 26 #[.pointer (some ⟨g, 0, none⟩), .int .i64 c] w fun z w' => z = .returned (.agg #[.int .i64 0, .bool false, .slice none 0 0, .slice none 0 0, .string ⟨#[]⟩, .slice none 0 0]) ∧ RRd w0 g S w' p e b d lg ∧ But g w w' := by
  have i0 : ¬ ((e : Int) = 0) := by omega
  have i1 : ((e : Int) == 0) = false := beq_eq_false_iff_ne.2 i0
  clear he
  have hgl := h.lt
  obtain ⟨h0, h1, h2, h3, h4, h5⟩ := h.facts
  go_enter Tryz.func26, Tryz.ntmps26
  go_wp2
  refine ret6c (fn := Tryz.f26) Tryz.results26 rfl rfl (C6.new w _ _ _ _ _ _) ?_
  exact ⟨rfl, h.alloc _, (But.refl g w).alloc _⟩
set_option maxHeartbeats 800000 in
theorem rwithin_ok {w0 w : World} {g p d : Nat} {lg : Bool} {S : ByteArray} (h : RRd w0 g S w p 0 0 d lg) (hd : d < 31) (hp : p ≤ 100000) :
    Calls Tryz.prog 97 #[.pointer (some ⟨g, 0, none⟩)] w fun z w' => z = .returned (.bool true) ∧ RRd w0 g S w' (p + 1) 0 0 (d + 1) lg ∧ But g w w' := by
  have i0 : ¬ ((32 : Int) ≤ (d : Int) + 1) := by omega
  have i1 : (d : Int) < 31 := by omega
  have i2 : (0 : Int) ≤ (d : Int) := by omega
  have i3 : (p : Int) ≤ 100000 := by omega
  have i4 : (0 : Int) ≤ (p : Int) := by omega
  obtain ⟨h0, h1, h2, h3, h4, h5⟩ := h.facts
  obtain ⟨f1, f2, f3, f4, f5⟩ := h.thaw
  go_enter Tryz.func97, Tryz.ntmps97
  go_wp2
  go_ret
  exact ⟨rfl, (h.set4 (q := d + 1) (by omega)).set1 (q := p + 1) (by omega), ((But.refl g w).set _ _).set _ _⟩
set_option maxHeartbeats 800000 in
theorem rwithin_err {w0 w : World} {g p : Nat} {lg : Bool} {S : ByteArray} (h : RRd w0 g S w p 0 0 31 lg) :
    Calls Tryz.prog 97 #[.pointer (some ⟨g, 0, none⟩)] w fun z w' => z = .returned (.bool false) ∧ RRd w0 g S w' p 4 p 31 lg ∧ But g w w' := by
  obtain ⟨h0, h1, h2, h3, h4, h5⟩ := h.facts
  go_enter Tryz.func97, Tryz.ntmps97
  go_wp2_with fail
  refine (rfail_ok 4 h).mono ?_
  rintro z w1 ⟨rfl, hr, hb⟩
  go_wp2
  go_ret
  exact ⟨rfl, hr, hb⟩
set_option maxHeartbeats 800000 in
theorem rdigit_c (c : UInt8) (w : World) : Calls Tryz.prog 51 #[.int .u8 c.toNat] w fun e w' => e = .returned (.bool (isDg c)) ∧ w = w' := by
  unfold isDg
  by_cases h1 : 48 ≤ c.toNat
  · have i1 : (48 : Int) ≤ (c.toNat : Int) := by omega
    by_cases h2 : c.toNat ≤ 57
    · have i2 : (c.toNat : Int) ≤ 57 := by omega
      rw [decide_eq_true h1, decide_eq_true h2]
      go_enter Tryz.func51, Tryz.ntmps51
      go_wp2
      go_ret
      exact ⟨rfl, rfl⟩
    · have i2 : ¬ (c.toNat : Int) ≤ 57 := by omega
      rw [decide_eq_false h2, Bool.and_false]
      go_enter Tryz.func51, Tryz.ntmps51
      go_wp2
      go_ret
      exact ⟨rfl, rfl⟩
  · have i1 : ¬ (48 : Int) ≤ (c.toNat : Int) := by omega
    rw [decide_eq_false h1, Bool.false_and]
    go_enter Tryz.func51, Tryz.ntmps51
    go_wp2
    go_ret
    exact ⟨rfl, rfl⟩
set_option maxHeartbeats 800000 in
theorem rletter_c (c : UInt8) (w : World) : Calls Tryz.prog 50 #[.int .u8 c.toNat] w fun e w' => e = .returned (.bool (isLw c)) ∧ w = w' := by
  unfold isLw
  by_cases h1 : 97 ≤ c.toNat
  · have i1 : (97 : Int) ≤ (c.toNat : Int) := by omega
    by_cases h2 : c.toNat ≤ 122
    · have i2 : (c.toNat : Int) ≤ 122 := by omega
      rw [decide_eq_true h1, decide_eq_true h2]
      go_enter Tryz.func50, Tryz.ntmps50
      go_wp2
      go_ret
      exact ⟨rfl, rfl⟩
    · have i2 : ¬ (c.toNat : Int) ≤ 122 := by omega
      rw [decide_eq_false h2, Bool.and_false]
      go_enter Tryz.func50, Tryz.ntmps50
      go_wp2
      go_ret
      exact ⟨rfl, rfl⟩
  · have i1 : ¬ (97 : Int) ≤ (c.toNat : Int) := by omega
    rw [decide_eq_false h1, Bool.false_and]
    go_enter Tryz.func50, Tryz.ntmps50
    go_wp2
    go_ret
    exact ⟨rfl, rfl⟩
end Go.Proofs.YtcmkgoikmleanaaGreatDoor
