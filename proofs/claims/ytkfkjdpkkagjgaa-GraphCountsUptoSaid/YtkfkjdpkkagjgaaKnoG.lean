/-
  What is known of a ring of three.
-/
import Derived.Test.YtkfkjdpkkagjgaaPairC
namespace Go.Proofs.Ytkfkjdpkkagjgaa
set_option maxRecDepth 20000
open Go.RowKit

theorem csOf_turn {w w' : World} {N : Nat} {ps : List (Cv × List Tv)} (h : ∀ x ∈ ps, Gin w x) (hb : Below w.heap.size w w') : csOf w' N ps = csOf w N ps :=
  List.map_congr_left fun x hx => (vr_turn (h x hx) hb).symm
theorem Gns.below {w w' : World} {A : Option Addr} {m : Nat} {ps : List (Cv × List Tv)} (h : Gns w A m ps) (hb : Below w.heap.size w w') : Gns w' A m ps :=
  ⟨h.kons.below hb, fun x hx => (h.each x hx).below hb, h.le⟩
theorem kons3 {w : World} {G : Nat} {va vb vc : Cv} (hG : w.heap[G]? = some (.cells #[.int .i64 va.s, .slice va.A va.n va.c, .bool va.K.s, .slice va.K.A va.K.n va.K.c, .slice va.K.B va.K.m va.K.d, .int .i64 vb.s, .slice vb.A vb.n vb.c, .bool vb.K.s, .slice vb.K.A vb.K.n vb.K.c, .slice vb.K.B vb.K.m vb.K.d, .int .i64 vc.s, .slice vc.A vc.n vc.c, .bool vc.K.s, .slice vc.K.A vc.K.n vc.K.c, .slice vc.K.B vc.K.m vc.K.d] 28 (0, 0))) : Kons w (some ⟨G, 0, none⟩) 3 [va, vb, vc] :=
  ⟨rfl, fun _ => ⟨G, 0, rfl, (Array.getElem?_eq_some_iff.1 hG).1, fun i x hx => by
    have hi : i < 3 := (List.getElem?_eq_some_iff.1 hx).1
    have : i = 0 ∨ i = 1 ∨ i = 2 := by omega
    rcases this with rfl | rfl | rfl
    · injection hx with hx; subst hx
      constructor <;> simp [World.cell?, hG]
    · injection hx with hx; subst hx
      constructor <;> simp [World.cell?, hG]
    · injection hx with hx; subst hx
      constructor <;> simp [World.cell?, hG]⟩⟩
theorem ring3 : IsFst 3 [[0, 1], [1, 2], [0, 2]] 2 := by
  refine .inr ⟨2, rfl, by decide, by unfold ringAt; decide, fun j hj => ?_⟩
  have : j = 0 ∨ j = 1 := by omega
  rcases this with rfl | rfl <;> (unfold ringAt; decide)
set_option maxHeartbeats 3200000 in
theorem known11_c (w : World) : Calls Try.prog 22 #[] w fun e w' => e = .returned (.bool true) ∧ Below w.heap.size w w' := by
  go_enter Try.func22, Try.ntmps22
  go_wp2_with fail
  refine (pair_c 0 1 (by omega) w).mono ?_
  rintro e w1 ⟨G1, z1, k1, rfl, h1, b1⟩
  have H1 := Lib.hid (And.intro h1.low b1)
  clear h1 b1
  go_wp2_with fail
  refine (pair_c 1 2 (by omega) w1).mono ?_
  rintro e w2 ⟨G2, z2, k2, rfl, h2, b2⟩
  have H2 : Hid (Two w2 0 G1 0 1 z1 k1 ∧ Two w2 0 G2 1 2 z2 k2 ∧ Below w.heap.size w w2) := ⟨H1.out.1.below b2, h2.low, H1.out.2.trans (b2.mono H1.out.2.size)⟩
  clear h2 b2 H1
  go_wp2_with fail
  refine (pair_c 0 2 (by omega) w2).mono ?_
  rintro e w3 ⟨G3, z3, k3, rfl, h3, b3⟩
  have H3 : Hid (Two w3 0 G1 0 1 z1 k1 ∧ Two w3 0 G2 1 2 z2 k2 ∧ Two w3 0 G3 0 2 z3 k3 ∧ Below w.heap.size w w3) := ⟨H2.out.1.below b3, H2.out.2.1.below b3, h3.low, H2.out.2.2.trans (b3.mono H2.out.2.2.size)⟩
  clear h3 b3 H2
  go_wp2_with fail
  have H4 : Hid (Gns (w3.alloc (.cells #[.int .i64 0, .slice (some ⟨G1, 0, none⟩) 2 2, .bool k1.s, .slice k1.A k1.n k1.c, .slice k1.B k1.m k1.d, .int .i64 0, .slice (some ⟨G2, 0, none⟩) 2 2, .bool k2.s, .slice k2.A k2.n k2.c, .slice k2.B k2.m k2.d, .int .i64 0, .slice (some ⟨G3, 0, none⟩) 2 2, .bool k3.s, .slice k3.A k3.n k3.c, .slice k3.B k3.m k3.d] 28)) (some ⟨w3.heap.size, 0, none⟩) 3 [(pv G1 k1, [⟨((0 : Nat) : Int), z1⟩, ⟨((1 : Nat) : Int), z1⟩]), (pv G2 k2, [⟨((1 : Nat) : Int), z2⟩, ⟨((2 : Nat) : Int), z2⟩]), (pv G3 k3, [⟨((0 : Nat) : Int), z3⟩, ⟨((2 : Nat) : Int), z3⟩])] ∧
      csOf (w3.alloc (.cells #[.int .i64 0, .slice (some ⟨G1, 0, none⟩) 2 2, .bool k1.s, .slice k1.A k1.n k1.c, .slice k1.B k1.m k1.d, .int .i64 0, .slice (some ⟨G2, 0, none⟩) 2 2, .bool k2.s, .slice k2.A k2.n k2.c, .slice k2.B k2.m k2.d, .int .i64 0, .slice (some ⟨G3, 0, none⟩) 2 2, .bool k3.s, .slice k3.A k3.n k3.c, .slice k3.B k3.m k3.d] 28)) 3 [(pv G1 k1, [⟨((0 : Nat) : Int), z1⟩, ⟨((1 : Nat) : Int), z1⟩]), (pv G2 k2, [⟨((1 : Nat) : Int), z2⟩, ⟨((2 : Nat) : Int), z2⟩]), (pv G3 k3, [⟨((0 : Nat) : Int), z3⟩, ⟨((2 : Nat) : Int), z3⟩])] = [[0, 1], [1, 2], [0, 2]] ∧
      Below w.heap.size w (w3.alloc (.cells #[.int .i64 0, .slice (some ⟨G1, 0, none⟩) 2 2, .bool k1.s, .slice k1.A k1.n k1.c, .slice k1.B k1.m k1.d, .int .i64 0, .slice (some ⟨G2, 0, none⟩) 2 2, .bool k2.s, .slice k2.A k2.n k2.c, .slice k2.B k2.m k2.d, .int .i64 0, .slice (some ⟨G3, 0, none⟩) 2 2, .bool k3.s, .slice k3.A k3.n k3.c, .slice k3.B k3.m k3.d] 28))) := by
    obtain ⟨g1, g2, g3, g4⟩ := H3.out
    have hb : Below w3.heap.size w3 (w3.alloc (.cells #[.int .i64 0, .slice (some ⟨G1, 0, none⟩) 2 2, .bool k1.s, .slice k1.A k1.n k1.c, .slice k1.B k1.m k1.d, .int .i64 0, .slice (some ⟨G2, 0, none⟩) 2 2, .bool k2.s, .slice k2.A k2.n k2.c, .slice k2.B k2.m k2.d, .int .i64 0, .slice (some ⟨G3, 0, none⟩) 2 2, .bool k3.s, .slice k3.A k3.n k3.c, .slice k3.B k3.m k3.d] 28)) := (Below.refl _ _).alloc (Nat.le_refl _) _
    replace g1 := g1.below hb
    replace g2 := g2.below hb
    replace g3 := g3.below hb
    refine ⟨⟨kons3 (heap_alloc_new w3 _), fun x hx => ?_, by omega⟩, ?_, g4.alloc g4.size _⟩
    · simp only [List.mem_cons, List.not_mem_nil, or_false] at hx
      rcases hx with rfl | rfl | rfl
      · exact g1.gin
      · exact g2.gin
      · exact g3.gin
    · unfold csOf
      rw [List.map_cons, List.map_cons, List.map_cons, List.map_nil, g1.vr (by omega) (by omega), g2.vr (by omega) (by omega), g3.vr (by omega) (by omega)]
  clear H3
  refine (First_c 3 3 rfl (some ⟨w3.heap.size, 0, none⟩) 3 3 _ _ _ _ H4.out.1 H4.out.2.1 (Below.refl _ _)).mono ?_
  rintro e w4 ⟨k, rfl, hk, hb⟩
  obtain rfl := hk.uniq ring3
  have HB : Hid (Below w.heap.size w w4) := H4.out.2.2.trans (hb.mono H4.out.2.2.size)
  clear hk hb H4
  go_wp2
  go_ret
  exact ⟨rfl, HB.out⟩
end Go.Proofs.Ytkfkjdpkkagjgaa
