/-
  Whether a tree is linear in some names, whether one stands in it: the program's answers.
-/
import Derived.Test.YtcmkgoikmleanaaCkX
namespace Go.Proofs.Ytcmkgoikmleanaa
set_option maxRecDepth 20000
open Go.RowKit Go.Maps Go.WideMaps

theorem bdrew {B : Nat} {w w' : World} (h : Below B w w') : Below B w w'.drew := ⟨h.os, h.tape, h.output, h.size, h.block⟩
theorem Strs.drew {w : World} {A : Option Addr} {n : Nat} {ss : List ByteArray} (h : Strs w A n ss) : Strs w.drew A n ss := h.below (bdrew (Below.refl _ _))
theorem C6.drew {w : World} {b : Nat} {x0 x1 x2 x3 x4 x5 : Value} (h : C6 w b x0 x1 x2 x3 x4 x5) : C6 w.drew b x0 x1 x2 x3 x4 x5 := h
theorem walk_c (mb : Nat) (l : List ByteArray) : ∀ (t : Tr) (v : Ev) (w w0 : World), RdT w0 t v → Below w0.heap.size w0 w → SetAt w mb l →
    Calls Try.prog 40 #[.agg #[.int .i64 v.k, .bool v.r.s, .slice v.r.A v.r.n v.r.c, .slice v.r.B v.r.m v.r.d, .string v.s, .slice v.K v.n v.c], .map (some mb)] w fun e w' => e = .returned (.agg #[.bool (sees (inL l) t).1, .bool (sees (inL l) t).2]) ∧ Below w.heap.size w w' := by
  intro t
  induction t with
  | leaf => exact fun v w w0 h => h.elim
  | node kk ss nn f ih =>
    rintro ⟨vk, r, st, K, n, c⟩ w w0 ⟨hk1, hs1, hn1, hk, hs, hnc, hn9, hr3, hr4, hkids⟩ hb00 hset
    dsimp only at hk1 hs1 hn1
    subst hk1
    subst hs1
    subst hn1
    have hkk : ∀ i, i < n → ∃ b off x, K = some (⟨b, off, none⟩ : Addr) ∧ b < w0.heap.size ∧ At6 w0 b (off + i * 6) x ∧ ∀ w', Below w0.heap.size w0 w' → SetAt w' mb l →
        Calls Try.prog 40 #[.agg #[.int .i64 x.k, .bool x.r.s, .slice x.r.A x.r.n x.r.c, .slice x.r.B x.r.m x.r.d, .string x.s, .slice x.K x.n x.c], .map (some mb)] w' fun e w'' => e = .returned (.agg #[.bool (sees (inL l) (f i)).1, .bool (sees (inL l) (f i)).2]) ∧ Below w'.heap.size w' w'' := by
      intro i hi
      obtain ⟨b, off, x, e1, e2, e3, e4⟩ := hkids i hi
      exact ⟨b, off, x, e1, e2, e3, fun w' hb hs' => ih i x w' w0 e4 hb hs'⟩
    by_cases h2 : vk = 2
    · exact walk_nm vk r st K n c w0 w mb l (fun i => sees (inL l) (f i)) h2 hs hn9 hkk hb00 hset
    · exact walk_no vk r st K n c w0 w mb l (fun i => sees (inL l) (f i)) h2 hn9 hkk hb00 hset
set_option maxHeartbeats 1600000 in
theorem Linear_c (t : Tr) (v : Ev) (A : Option Addr) (n c : Nat) (ss : List ByteArray) (w : World) (hr : RdT w t v) (hs : Strs w A n ss) (hn : n ≤ 1000000) :
    Calls Try.prog 19 #[.agg #[.int .i64 v.k, .bool v.r.s, .slice v.r.A v.r.n v.r.c, .slice v.r.B v.r.m v.r.d, .string v.s, .slice v.K v.n v.c], .slice A n c] w fun e w' => e = .returned (.bool (sees (inL ss) t).2) ∧ Below w.heap.size w w' := by
  have k_e := C6.new w (.int .i64 v.k) (.bool v.r.s) (.slice v.r.A v.r.n v.r.c) (.slice v.r.B v.r.m v.r.d) (.string v.s) (.slice v.K v.n v.c)
  have hb0 := (Below.refl w.heap.size w).alloc (Nat.le_refl _) (.cells #[.int .i64 v.k, .bool v.r.s, .slice v.r.A v.r.n v.r.c, .slice v.r.B v.r.m v.r.d, .string v.s, .slice v.K v.n v.c] 36)
  have hs0 := hs.below hb0
  obtain ⟨e0, e1, e2, e3, e4, e5⟩ := k_e.facts
  have hfl : ∀ (x y : Bool) (w' : World), (Instr.field 59 (.agg #[.bool x, .bool y]) 1).run Try.prog w' = .ok (.bool y) w' := fun _ _ _ => by kernel_rfl
  go_enter Try.func19, Try.ntmps19
  go_wp2_with fail
  go_region_held3 (fun w' => w'.cell? ⟨w.heap.size, 0, none⟩ = some (.int .i64 v.k) ∧ w'.cell? ⟨w.heap.size, 1, none⟩ = some (.bool v.r.s) ∧ w'.cell? ⟨w.heap.size, 2, none⟩ = some (.slice v.r.A v.r.n v.r.c) ∧ w'.cell? ⟨w.heap.size, 3, none⟩ = some (.slice v.r.B v.r.m v.r.d) ∧ w'.cell? ⟨w.heap.size, 4, none⟩ = some (.string v.s) ∧ w'.cell? ⟨w.heap.size, 5, none⟩ = some (.slice v.K v.n v.c)) (go_keep)
      (first
      | (go_at_call 41
         refine (setOf_c A n c ss _ hs0.drew hn).mono ?_
         rintro e w1 ⟨mb, rfl, hmb, hset, hb1⟩
         obtain ⟨e0, e1, e2, e3, e4, e5⟩ := (k_e.drew.below hb1).facts
         have hb2 := (bdrew hb0).trans (hb1.mono (bdrew hb0).size))
      | (go_at_call 40
         refine (walk_c mb ss t v _ w hr hb2 hset).mono ?_
         rintro e w2 ⟨rfl, hb3⟩
         have hb4 := hb2.trans (hb3.mono hb2.size)
         obtain ⟨e0, e1, e2, e3, e4, e5⟩ := ((k_e.drew.below hb1).below hb3).facts))
  go_wp2
  go_ret
  exact ⟨rfl, hb4⟩
set_option maxHeartbeats 1600000 in
theorem Has_c (t : Tr) (v : Ev) (A : Option Addr) (n c : Nat) (ss : List ByteArray) (w : World) (hr : RdT w t v) (hs : Strs w A n ss) (hn : n ≤ 1000000) :
    Calls Try.prog 42 #[.agg #[.int .i64 v.k, .bool v.r.s, .slice v.r.A v.r.n v.r.c, .slice v.r.B v.r.m v.r.d, .string v.s, .slice v.K v.n v.c], .slice A n c] w fun e w' => e = .returned (.bool (sees (inL ss) t).1) ∧ Below w.heap.size w w' := by
  have k_e := C6.new w (.int .i64 v.k) (.bool v.r.s) (.slice v.r.A v.r.n v.r.c) (.slice v.r.B v.r.m v.r.d) (.string v.s) (.slice v.K v.n v.c)
  have hb0 := (Below.refl w.heap.size w).alloc (Nat.le_refl _) (.cells #[.int .i64 v.k, .bool v.r.s, .slice v.r.A v.r.n v.r.c, .slice v.r.B v.r.m v.r.d, .string v.s, .slice v.K v.n v.c] 36)
  have hs0 := hs.below hb0
  obtain ⟨e0, e1, e2, e3, e4, e5⟩ := k_e.facts
  have hfl : ∀ (x y : Bool) (w' : World), (Instr.field 59 (.agg #[.bool x, .bool y]) 0).run Try.prog w' = .ok (.bool x) w' := fun _ _ _ => by kernel_rfl
  go_enter Try.func42, Try.ntmps42
  go_wp2_with fail
  go_region_held3 (fun w' => w'.cell? ⟨w.heap.size, 0, none⟩ = some (.int .i64 v.k) ∧ w'.cell? ⟨w.heap.size, 1, none⟩ = some (.bool v.r.s) ∧ w'.cell? ⟨w.heap.size, 2, none⟩ = some (.slice v.r.A v.r.n v.r.c) ∧ w'.cell? ⟨w.heap.size, 3, none⟩ = some (.slice v.r.B v.r.m v.r.d) ∧ w'.cell? ⟨w.heap.size, 4, none⟩ = some (.string v.s) ∧ w'.cell? ⟨w.heap.size, 5, none⟩ = some (.slice v.K v.n v.c)) (go_keep)
      (first
      | (go_at_call 41
         refine (setOf_c A n c ss _ hs0.drew hn).mono ?_
         rintro e w1 ⟨mb, rfl, hmb, hset, hb1⟩
         obtain ⟨e0, e1, e2, e3, e4, e5⟩ := (k_e.drew.below hb1).facts
         have hb2 := (bdrew hb0).trans (hb1.mono (bdrew hb0).size))
      | (go_at_call 40
         refine (walk_c mb ss t v _ w hr hb2 hset).mono ?_
         rintro e w2 ⟨rfl, hb3⟩
         have hb4 := hb2.trans (hb3.mono hb2.size)
         obtain ⟨e0, e1, e2, e3, e4, e5⟩ := ((k_e.drew.below hb1).below hb3).facts))
  go_wp2
  go_ret
  exact ⟨rfl, hb4⟩
end Go.Proofs.Ytcmkgoikmleanaa
