/-
  Two trees made one by the call itself; fields in both factors.
-/
import Derived.Test.YtcmkgoikmleanaaCkY
namespace Go.Proofs.Ytcmkgoikmleanaa
set_option maxRecDepth 20000
open Go.RowKit Go.Maps Go.WideMaps

def Rz : Rv := ⟨false, none, 0, 0, none, 0, 0⟩
theorem rd_name (w : World) (s : ByteArray) (hs : s.size ≤ 1000) : RdT w (.node 2 s 0 fun _ => .leaf) ⟨2, ⟨false, none, 0, 0, none, 0, 0⟩, s, none, 0, 0⟩ :=
  ⟨rfl, rfl, rfl, by omega, by omega, Nat.le_refl _, by omega, Nat.zero_le _, Nat.zero_le _, fun i hi => absurd hi (Nat.not_lt_zero _)⟩
/-- A block that holds two structs. -/
def C12 (w : World) (b : Nat) (x y : Ev) : Prop := w.heap[b]? = some (.cells #[.int .i64 x.k, .bool x.r.s, .slice x.r.A x.r.n x.r.c, .slice x.r.B x.r.m x.r.d, .string x.s, .slice x.K x.n x.c, .int .i64 y.k, .bool y.r.s, .slice y.r.A y.r.n y.r.c, .slice y.r.B y.r.m y.r.d, .string y.s, .slice y.K y.n y.c] 36 (0, 0))
theorem C12.below {w w' : World} {b : Nat} {x y : Ev} (h : C12 w b x y) (hl : b < w.heap.size) (hb : Below w.heap.size w w') : C12 w' b x y := (hb.block b hl).trans h
theorem C12.newAt {w : World} {b : Nat} (x y : Ev) (hb : b = w.heap.size) : C12 (w.alloc (.cells #[.int .i64 x.k, .bool x.r.s, .slice x.r.A x.r.n x.r.c, .slice x.r.B x.r.m x.r.d, .string x.s, .slice x.K x.n x.c, .int .i64 y.k, .bool y.r.s, .slice y.r.A y.r.n y.r.c, .slice y.r.B y.r.m y.r.d, .string y.s, .slice y.K y.n y.c] 36)) b x y := by subst hb; exact heap_alloc_new w _
theorem C12.at {w : World} {b : Nat} {x y : Ev} (h : C12 w b x y) : At6 w b (0 + 0 * 6) x ∧ At6 w b (0 + 1 * 6) y := by
  have h' : w.heap[b]? = some (.cells #[.int .i64 x.k, .bool x.r.s, .slice x.r.A x.r.n x.r.c, .slice x.r.B x.r.m x.r.d, .string x.s, .slice x.K x.n x.c, .int .i64 y.k, .bool y.r.s, .slice y.r.A y.r.n y.r.c, .slice y.r.B y.r.m y.r.d, .string y.s, .slice y.K y.n y.c] 36 (0, 0)) := h
  refine ⟨⟨?_, ?_, ?_, ?_, ?_, ?_⟩, ⟨?_, ?_, ?_, ?_, ?_, ?_⟩⟩ <;> simp [World.cell?, h']
theorem rd_two {w : World} {b : Nat} {x y : Ev} {tx ty : Tr} (k : Int) (hk : 0 ≤ k ∧ k ≤ 9) (h : C12 w b x y) (hl : b < w.heap.size) (hx : RdT w tx x) (hy : RdT w ty y) :
    RdT w (.node k ⟨#[]⟩ 2 fun i => if i = 0 then tx else ty) ⟨k, ⟨false, none, 0, 0, none, 0, 0⟩, ⟨#[]⟩, some ⟨b, 0, none⟩, 2, 2⟩ := by
  refine ⟨rfl, rfl, rfl, by omega, Nat.zero_le _, Nat.le_refl _, by omega, Nat.zero_le _, Nat.zero_le _, fun i hi => ?_⟩
  have : i = 0 ∨ i = 1 := by omega
  rcases this with rfl | rfl
  · exact ⟨b, 0, x, rfl, hl, h.at.1, hx⟩
  · exact ⟨b, 0, y, rfl, hl, h.at.2, hy⟩
theorem strs_of (w : World) (b n : Nat) (ss : List ByteArray) (hl : ss.length = n) (hs : ∀ i, (ss.getD i ByteArray.empty).size ≤ 1000) (hb : b < w.heap.size) (hc : ∀ j, j < n → w.cell? ⟨b, 0 + j, none⟩ = some (.string (ss.getD j ByteArray.empty))) :
    Strs w (some ⟨b, 0, none⟩) n ss := ⟨hl, fun i => by have := hs i; omega, fun _ => ⟨b, 0, rfl, hb, hc⟩⟩
theorem cell_newAt (w : World) (cs : Array Value) (T : TypeId) (b j : Nat) (hb : b = w.heap.size) : (w.alloc (.cells cs T)).cell? ⟨b, j, none⟩ = cs[j]? := by
  subst hb
  have h := heap_alloc_new w (.cells cs T)
  simp only [World.cell?]
  rw [h]
  rfl
def nmA : ByteArray := ⟨#[97]⟩
def nmB : ByteArray := ⟨#[98]⟩
theorem small2 : ∀ i, ([nmA, nmB].getD i ByteArray.empty).size ≤ 1000
  | 0 => by decide
  | 1 => by decide
  | _ + 2 => Nat.zero_le _
theorem small1 : ∀ i, ([nmA].getD i ByteArray.empty).size ≤ 1000
  | 0 => by decide
  | _ + 1 => Nat.zero_le _
theorem sees_k1 : (sees (inL [nmA, nmB]) (.node 5 ⟨#[]⟩ 2 fun i => if i = 0 then .node 2 nmA 0 fun _ => .leaf else .node 2 nmB 0 fun _ => .leaf)).2 = false := by decide +kernel
theorem sees_k2 : (sees (inL [nmA]) (.node 2 nmA 0 fun _ => .leaf)).1 = true := by decide +kernel
set_option maxHeartbeats 1600000 in
theorem known7_c (w : World) : Calls Try.prog 20 #[] w fun e w' => e = .returned (.bool true) ∧ Below w.heap.size w w' := by
  go_enter Try.func20, Try.ntmps20
  go_wp2_with fail
  have k_a := C6.new w (.int .i64 2) (.bool false) (.slice none 0 0) (.slice none 0 0) (.string ⟨#[97]⟩) (.slice none 0 0)
  have hW0 : Below w.heap.size w (w.alloc (.cells #[.int .i64 2, .bool false, .slice none 0 0, .slice none 0 0, .string ⟨#[97]⟩, .slice none 0 0] 36)) := (Below.refl _ _).alloc (Nat.le_refl _) _
  generalize hWA : w.alloc (.cells #[.int .i64 2, .bool false, .slice none 0 0, .slice none 0 0, .string ⟨#[97]⟩, .slice none 0 0] 36) = WA at *
  have zA : WA.heap.size = w.heap.size + 1 := by rw [← hWA]; simp
  clear hWA
  refine (Linear_c (.node 5 ⟨#[]⟩ 2 fun i => if i = 0 then .node 2 nmA 0 fun _ => .leaf else .node 2 nmB 0 fun _ => .leaf) ⟨5, ⟨false, none, 0, 0, none, 0, 0⟩, ⟨#[]⟩, some ⟨w.heap.size + 1 + 1, 0, none⟩, 2, 2⟩ (some ⟨w.heap.size + 1 + 1 + 1, 0, none⟩) 2 2 [nmA, nmB] _ ?_ ?_ (by omega)).mono ?_
  · refine rd_two 5 (by omega) ((C12.newAt ⟨2, ⟨false, none, 0, 0, none, 0, 0⟩, nmA, none, 0, 0⟩ ⟨2, ⟨false, none, 0, 0, none, 0, 0⟩, nmB, none, 0, 0⟩ (by simp [zA])).below (by simp [zA]) ((Below.refl _ _).alloc (Nat.le_refl _) _)) (by simp [zA]) (rd_name _ _ (by decide)) (rd_name _ _ (by decide))
  · refine strs_of _ _ _ _ rfl small2 (by simp [zA]) ?_
    intro j hj
    have : j = 0 ∨ j = 1 := by omega
    rcases this with rfl | rfl
    · exact cell_newAt _ _ _ _ _ (by simp [zA])
    · exact cell_newAt _ _ _ _ _ (by simp [zA])
  rintro e w1 ⟨he, hb1⟩
  rw [sees_k1] at he
  subst he
  have hbw := (((hW0.alloc hW0.size _).alloc (by simp; omega) _).alloc (by simp; omega) _).trans (hb1.mono (by simp; omega))
  replace k_a := ((((k_a.alloc _).alloc _).alloc _).below hb1)
  clear hb1 hW0
  obtain ⟨e0, e1, e2, e3, e4, e5⟩ := k_a.facts
  go_wp2_with fail
  refine (Has_c (.node 2 nmA 0 fun _ => .leaf) ⟨2, ⟨false, none, 0, 0, none, 0, 0⟩, nmA, none, 0, 0⟩ (some ⟨w1.heap.size, 0, none⟩) 1 1 [nmA] _ (rd_name _ _ (by decide)) ?_ (by omega)).mono ?_
  · refine strs_of _ _ _ _ rfl small1 (by simp) ?_
    intro j hj
    have : j = 0 := by omega
    subst this
    exact cell_newAt _ _ _ _ _ rfl
  rintro e w2 ⟨he, hb2⟩
  rw [sees_k2] at he
  subst he
  have hbz := (hbw.alloc hbw.size _).trans (hb2.mono (by have := hbw.size; simp; omega))
  clear hb2 e0 e1 e2 e3 e4 e5
  go_wp2
  go_ret
  exact ⟨rfl, hbz⟩
end Go.Proofs.Ytcmkgoikmleanaa
