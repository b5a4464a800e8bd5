/-
  Two sums that a law makes: their memory.
  What is known of two sums: the choice in which both tell.
-/
import Derived.Test.YtjbhhccklfddaaaVDlS
namespace Go.Proofs.Ytjbhhccklfddaaa
set_option maxRecDepth 20000
open Go.RowKit
theorem Rt.nrm {w : World} {lo : Nat} {v : Rv} {r : Rat} (h : Rt w lo v r) : Nrm w v :=
 ⟨_, _, h.num.lower (Nat.zero_le _), h.den.lower (Nat.zero_le _), (IsN_iff _ _ _ h.num.l32 h.den.l32 r (by rw [val_lim, val_lim, h.sign]; exact rn_self r)).2 ⟨h.sign, rfl, rfl⟩⟩
theorem Row.apart5 {w : World} {lo n Y : Nat} {A : Option Addr} {l : List Nat} (h : Row w lo A n l) (k : C5 w Y (.int .i64 0) (.slice none 0 0) (.bool false) (.slice none 0 0) (.slice none 0 0)) (hn : 0 < n) : ∃ b' off, A = some ⟨b', off, none⟩ ∧ b' ≠ Y := by
 obtain ⟨b', off, e, h1, h2, hc⟩ := h.mem hn
 refine ⟨b', off, e, fun hbb => ?_⟩
 subst hbb
 have h' : w.heap[b']? = some (.cells #[Value.int .i64 0, .slice none 0 0, .bool false, .slice none 0 0, .slice none 0 0] 43 (0, 0)) := k
 have h0 := hc 0 hn
 rw [Nat.add_zero] at h0
 rcases Nat.lt_or_ge off 5 with h3 | h3
 ·
  have : off = 0 ∨ off = 1 ∨ off = 2 ∨ off = 3 ∨ off = 4 := by omega
  rcases this with rfl | rfl | rfl | rfl | rfl <;> simp [World.cell?, h'] at h0
 ·
  have hn : (#[Value.int .i64 0, .slice none 0 0, .bool false, .slice none 0 0, .slice none 0 0] : Array Value)[off]? = none := Array.getElem?_eq_none (by simpa using h3)
  simp [World.cell?, h', hn] at h0
theorem Row.put5z {w : World} {lo n Y : Nat} {A : Option Addr} {l : List Nat} (h : Row w lo A n l) (k : C5 w Y (.int .i64 0) (.slice none 0 0) (.bool false) (.slice none 0 0) (.slice none 0 0)) (x0 x1 x2 x3 x4 : Value) : Row (put5 w Y x0 x1 x2 x3 x4) lo A n l := by
 by_cases hn : 0 < n
 ·
  obtain ⟨b', off, e, hne⟩ := h.apart5 k hn
  have hs : ∀ ad, A = some ad → ad.block ≠ Y := by intro ad ea; rw [e] at ea; injection ea with ea; subst ea; exact hne
  exact ((((h.set _ hs).set _ hs).set _ hs).set _ hs).set _ hs
 ·
  have h0 : n = 0 := by omega
  subst h0
  exact ⟨h.len, h.l32, fun h => absurd h (by omega)⟩
theorem Rt.put5z {w : World} {lo Y : Nat} {r : Rat} {u : Rv} (h : Rt w lo u r) (k : C5 w Y (.int .i64 0) (.slice none 0 0) (.bool false) (.slice none 0 0) (.slice none 0 0)) (x0 x1 x2 x3 x4 : Value) : Rt (put5 w Y x0 x1 x2 x3 x4) lo u r :=
 ⟨h.1, h.2, h.3, h.4.put5z k _ _ _ _ _, h.5, h.6, h.7.put5z k _ _ _ _ _⟩
structure Two2 (w : World) (G : Nat) (z1 z2 z3 : Rv) (q1 q2 k : Rat) : Prop where
 cells : w.heap[G]? = some (.cells #[.int .i64 0, .bool z1.s, .slice z1.A z1.n z1.c, .slice z1.B z1.m z1.d, .int .i64 1, .bool z2.s, .slice z2.A z2.n z2.c, .slice z2.B z2.m z2.d] 40 (0, 0))
 n1 : Rt w 0 z1 q1
 n2 : Rt w 0 z2 q2
 n3 : Rt w 0 z3 k
section
variable {w w' W : World} {G Y : Nat} {z1 z2 z3 : Rv} {q1 q2 k : Rat}
theorem Two2.lt (h : Two2 w G z1 z2 z3 q1 q2 k) : G < w.heap.size := (Array.getElem?_eq_some_iff.1 h.cells).1
theorem Two2.below (h : Two2 w G z1 z2 z3 q1 q2 k) (hb : Below w.heap.size w w') : Two2 w' G z1 z2 z3 q1 q2 k :=
 ⟨(hb.block _ h.lt).trans h.cells, h.n1.below hb, h.n2.below hb, h.n3.below hb⟩
theorem Two2.put5z (h : Two2 w G z1 z2 z3 q1 q2 k) (hk : C5 w Y (.int .i64 0) (.slice none 0 0) (.bool false) (.slice none 0 0) (.slice none 0 0)) (x0 x1 x2 x3 x4 : Value) : Two2 (put5 w Y x0 x1 x2 x3 x4) G z1 z2 z3 q1 q2 k := by
 have hne : G ≠ Y := by
  intro e
  subst e
  have h1 : w.heap[G]? = some (.cells #[Value.int .i64 0, .slice none 0 0, .bool false, .slice none 0 0, .slice none 0 0] 43 (0, 0)) := hk
  have h2 := h1.symm.trans h.cells
  injection h2 with h2
  injection h2 with h2
  have := congrArg Array.size h2
  simp at this
 exact ⟨(put5_but _ _ _ _ _ _ _ G h.lt hne).trans h.cells, h.n1.put5z hk _ _ _ _ _, h.n2.put5z hk _ _ _ _ _, h.n3.put5z hk _ _ _ _ _⟩
structure KinAt (W wx : World) (Y G : Nat) (z1 z2 z3 : Rv) (q1 q2 k : Rat) : Prop where
 cell : C5 wx Y (.int .i64 0) (.slice (some ⟨G, 0, none⟩) 2 2) (.bool z3.s) (.slice z3.A z3.n z3.c) (.slice z3.B z3.m z3.d)
 below : Below W.heap.size W wx
 two : Two2 wx G z1 z2 z3 q1 q2 k
theorem KinAt.put (hk : C5 w Y (.int .i64 0) (.slice none 0 0) (.bool false) (.slice none 0 0) (.slice none 0 0)) (hY : W.heap.size ≤ Y) (hb : Below W.heap.size W w) (h : Two2 w G z1 z2 z3 q1 q2 k) :
  KinAt W (put5 w Y (.int .i64 0) (.slice (some ⟨G, 0, none⟩) 2 2) (.bool z3.s) (.slice z3.A z3.n z3.c) (.slice z3.B z3.m z3.d)) Y G z1 z2 z3 q1 q2 k :=
 ⟨hk.put _ _ _ _ _, hb.trans (put5_below hY _ _ _ _ _), h.put5z hk _ _ _ _ _⟩
theorem KinAt.later (h : KinAt W w Y G z1 z2 z3 q1 q2 k) (hb : Below w.heap.size w w') : KinAt W w' Y G z1 z2 z3 q1 q2 k :=
 ⟨h.cell.below hb, h.below.trans (hb.mono h.below.size), h.two.below hb⟩
end
theorem kons_two {w : World} {G : Nat} {va vb : Cv} (hG : w.heap[G]? = some (.cells #[.int .i64 va.s, .slice va.A va.n va.c, .bool va.K.s, .slice va.K.A va.K.n va.K.c, .slice va.K.B va.K.m va.K.d, .int .i64 vb.s, .slice vb.A vb.n vb.c, .bool vb.K.s, .slice vb.K.A vb.K.n vb.K.c, .slice vb.K.B vb.K.m vb.K.d] 43 (0, 0))) : Kons w (some ⟨G, 0, none⟩) 2 [va, vb] :=
 ⟨rfl, fun _ => ⟨G, 0, rfl, (Array.getElem?_eq_some_iff.1 hG).1, fun i x hx => by
  have hi : i < 2 := (List.getElem?_eq_some_iff.1 hx).1
  have : i = 0 ∨ i = 1 := by omega
  rcases this with rfl | rfl
  ·
   injection hx with hx; subst hx
   constructor <;> simp [World.cell?, hG]
  ·
   injection hx with hx; subst hx
   constructor <;> simp [World.cell?, hG]⟩⟩
structure One1 (w : World) (G : Nat) (z1 z3 : Rv) (q k : Rat) : Prop where
 cells : w.heap[G]? = some (.cells #[.int .i64 0, .bool z1.s, .slice z1.A z1.n z1.c, .slice z1.B z1.m z1.d] 40 (0, 0))
 n1 : Rt w 0 z1 q
 n3 : Rt w 0 z3 k
section
variable {w w' W : World} {G Y : Nat} {z1 z3 : Rv} {q k : Rat}
theorem One1.lt (h : One1 w G z1 z3 q k) : G < w.heap.size := (Array.getElem?_eq_some_iff.1 h.cells).1
theorem One1.below (h : One1 w G z1 z3 q k) (hb : Below w.heap.size w w') : One1 w' G z1 z3 q k := ⟨(hb.block _ h.lt).trans h.cells, h.n1.below hb, h.n3.below hb⟩
theorem One1.put5z (h : One1 w G z1 z3 q k) (hk : C5 w Y (.int .i64 0) (.slice none 0 0) (.bool false) (.slice none 0 0) (.slice none 0 0)) (x0 x1 x2 x3 x4 : Value) : One1 (put5 w Y x0 x1 x2 x3 x4) G z1 z3 q k := by
 have hne : G ≠ Y := by
  intro e
  subst e
  have h1 : w.heap[G]? = some (.cells #[Value.int .i64 0, .slice none 0 0, .bool false, .slice none 0 0, .slice none 0 0] 43 (0, 0)) := hk
  have h2 := h1.symm.trans h.cells
  injection h2 with h2
  injection h2 with h2
  have := congrArg Array.size h2
  simp at this
 exact ⟨(put5_but _ _ _ _ _ _ _ G h.lt hne).trans h.cells, h.n1.put5z hk _ _ _ _ _, h.n3.put5z hk _ _ _ _ _⟩
structure OneK (W wx : World) (Y G : Nat) (z1 z3 : Rv) (q k : Rat) : Prop where
 cell : C5 wx Y (.int .i64 3) (.slice (some ⟨G, 0, none⟩) 1 1) (.bool z3.s) (.slice z3.A z3.n z3.c) (.slice z3.B z3.m z3.d)
 below : Below W.heap.size W wx
 one : One1 wx G z1 z3 q k
theorem OneK.put (hk : C5 w Y (.int .i64 0) (.slice none 0 0) (.bool false) (.slice none 0 0) (.slice none 0 0)) (hY : W.heap.size ≤ Y) (hb : Below W.heap.size W w) (h : One1 w G z1 z3 q k) :
  OneK W (put5 w Y (.int .i64 3) (.slice (some ⟨G, 0, none⟩) 1 1) (.bool z3.s) (.slice z3.A z3.n z3.c) (.slice z3.B z3.m z3.d)) Y G z1 z3 q k :=
 ⟨hk.put _ _ _ _ _, hb.trans (put5_below hY _ _ _ _ _), h.put5z hk _ _ _ _ _⟩
theorem OneK.later (h : OneK W w Y G z1 z3 q k) (hb : Below w.heap.size w w') : OneK W w' Y G z1 z3 q k :=
 ⟨h.cell.below hb, h.below.trans (hb.mono h.below.size), h.one.below hb⟩
end
theorem sz_ints (i : Int) (h : i = 1 ∨ i = -1 ∨ i = 0 ∨ i = -5) : Sz ((i : Int) : Rat) 1 := by
 rcases h with rfl | rfl | rfl | rfl <;> exact ⟨show (_ : Nat) < 4294967296 ^ 1 by decide, show (1 : Nat) < 4294967296 ^ 1 by decide⟩
theorem Rt.some1 {w : World} {lo : Nat} {v : Rv} {i : Int} (h : Rt w lo v ((i : Int) : Rat)) (hi : i ≠ 0) (hs : Sz ((i : Int) : Rat) 1) : v.n ≠ 0 := by
 have h1 := zero_nrm h.nrm (h.rw hs)
 intro e
 have h2 := h1.2 e
 exact hi (by exact_mod_cast h2)
def cvA (G : Nat) (z : Rv) : Cv := ⟨0, some ⟨G, 0, none⟩, 2, 2, z⟩
def cvB (G : Nat) (z : Rv) : Cv := ⟨3, some ⟨G, 0, none⟩, 1, 1, z⟩
def knAB (Ga Gb : Nat) (z1 z2 za zb : Rv) : List (Cv × List Tv) := [(cvA Ga za, [⟨0, z1⟩, ⟨1, z2⟩]), (cvB Gb zb, [⟨0, z1⟩])]
theorem knAB_gns {w : World} {G Ga Gb : Nat} {z1 z2 za zb : Rv} (hG : w.heap[G]? = some (.cells #[.int .i64 0, .slice (some ⟨Ga, 0, none⟩) 2 2, .bool za.s, .slice za.A za.n za.c, .slice za.B za.m za.d, .int .i64 3, .slice (some ⟨Gb, 0, none⟩) 1 1, .bool zb.s, .slice zb.A zb.n zb.c, .slice zb.B zb.m zb.d] 43 (0, 0)))
  (h1 : Two2 w Ga z1 z2 za ((1 : Int) : Rat) ((-1 : Int) : Rat) ((0 : Int) : Rat)) (h2 : One1 w Gb z1 zb ((1 : Int) : Rat) ((-5 : Int) : Rat)) :
  Gns w (some ⟨G, 0, none⟩) 2 (knAB Ga Gb z1 z2 za zb) ∧ ∀ x ∈ knAB Ga Gb z1 z2 za zb, IsS w x.1 x.2 2 := by
 have s1 := sz_ints 1 (by omega)
 have s2 := sz_ints (-1) (by omega)
 have s0 := sz_ints 0 (by omega)
 have s5 := sz_ints (-5) (by omega)
 have r1 := (h1.n1.rw s1).more (show 1 ≤ 150 by omega)
 have r2 := (h1.n2.rw s2).more (show 1 ≤ 150 by omega)
 have r3 := (h1.n3.rw s0).more (show 1 ≤ 150 by omega)
 have r4 := (h2.n3.rw s5).more (show 1 ≤ 150 by omega)
 have t1 : Tms w 0 (some ⟨Ga, 0, none⟩) 2 [⟨0, z1⟩, ⟨1, z2⟩] := ⟨rfl, fun _ => ⟨Ga, 0, rfl, Nat.zero_le _, h1.lt, fun i x hx => by
  have hi : i < 2 := (List.getElem?_eq_some_iff.1 hx).1
  have : i = 0 ∨ i = 1 := by omega
  rcases this with rfl | rfl <;> (injection hx with hx; subst hx; constructor <;> (rw [cell_of_row _ _ _ _ _ _ h1.cells]; rfl))⟩⟩
 have t2 : Tms w 0 (some ⟨Gb, 0, none⟩) 1 [⟨0, z1⟩] := ⟨rfl, fun _ => ⟨Gb, 0, rfl, Nat.zero_le _, h2.lt, fun i x hx => by
  have hi : i < 1 := (List.getElem?_eq_some_iff.1 hx).1
  have : i = 0 := by omega
  subst this
  injection hx with hx; subst hx; constructor <;> (rw [cell_of_row _ _ _ _ _ _ h2.cells]; rfl)⟩⟩
 have nz1 := Rt.some1 h1.n1 (by omega) s1
 have nz2 := Rt.some1 h1.n2 (by omega) s2
 refine ⟨⟨kons_two (va := cvA Ga za) (vb := cvB Gb zb) hG, fun x hx => ?_, by omega⟩, fun x hx => ?_⟩
 ·
  simp only [knAB, List.mem_cons, List.not_mem_nil, or_false] at hx
  rcases hx with rfl | rfl
  · exact ⟨by show 2 ≤ 2; omega, by show 2 ≤ 1000; omega, t1, ⟨[(0, ((1 : Int) : Rat)), (1, ((-1 : Int) : Rat))], ⟨rfl, r1⟩, ⟨rfl, r2⟩, trivial⟩, ⟨_, r3⟩⟩
  · exact ⟨by show 1 ≤ 1; omega, by show 1 ≤ 1000; omega, t2, ⟨[(0, ((1 : Int) : Rat))], ⟨rfl, r1⟩, trivial⟩, ⟨_, r4⟩⟩
 ·
  simp only [knAB, List.mem_cons, List.not_mem_nil, or_false] at hx
  rcases hx with rfl | rfl
  ·
   refine ⟨⟨by show (0 : Int) ≤ 0; omega, by show (0 : Int) ≤ 4; omega⟩, h1.n3.nrm, fun j x hj hx => ?_⟩
   have hj2 : j < 2 := hj
   have : j = 0 ∨ j = 1 := by omega
   rcases this with rfl | rfl
   ·
    injection hx with hx; subst hx
    exact ⟨by show (0 : Int) ≤ 0; omega, by show (0 : Int) < 2; omega, fun y h => absurd h (by omega), h1.n1.nrm, nz1⟩
   ·
    injection hx with hx; subst hx
    exact ⟨by show (0 : Int) ≤ 1; omega, by show (1 : Int) < 2; omega, fun y _ hy => by injection hy with hy; subst hy; show (0 : Int) < 1; omega, h1.n2.nrm, nz2⟩
  ·
   refine ⟨⟨by show (0 : Int) ≤ 3; omega, by show (3 : Int) ≤ 4; omega⟩, h2.n3.nrm, fun j x hj hx => ?_⟩
   have hj2 : j < 1 := hj
   have : j = 0 := by omega
   subst this
   injection hx with hx; subst hx
   exact ⟨by show (0 : Int) ≤ 0; omega, by show (0 : Int) < 2; omega, fun y h => absurd h (by omega), h2.n1.nrm, nz1⟩
end Go.Proofs.Ytjbhhccklfddaaa

namespace Go.Proofs.Ytjbhhccklfddaaa
set_option maxRecDepth 20000
open Go.RowKit
def vs2 (i : Nat) : List Nat := ([[0, 1], [0]] : List (List Nat)).getD i []
def ss2 (i : Nat) : Nat := ([0, 3] : List Nat).getD i 0
def k0 : Nat → Option Nat := fun _ => none
def k1 : Nat → Option Nat := tellTo 2 k0 0 0
def k2 : Nat → Option Nat := tellTo 2 k1 1 0
def k3 : Nat → Option Nat := tellTo 2 k2 0 1
theorem known_stl : Stl 2 vs2 ss2 [0, 1] k0 k3 := by
 have r1 : Rnd 2 vs2 ss2 [0, 1] k0 k3 := by
  refine .one 0 [1] k0 k1 k3 rfl (.took _ _ _ 0 (by decide) (by decide)) ?_
  refine .one 1 [] k1 k3 k3 (by decide) (.push _ _ _ 0 0 _ (by decide) (by decide) ?_) (.nil _)
  exact .took _ _ _ 1 (by decide) (by decide)
 have r2 : Rnd 2 vs2 ss2 [0, 1] k3 k3 := Rnd.still fun i hi => by
  simp only [List.mem_cons, List.not_mem_nil, or_false] at hi
  rcases hi with rfl | rfl <;> decide
 exact .more _ _ _ r1 (fun e => by have := congrFun e 0; revert this; decide) (.done _ r2)
theorem known_order {l : List Nat} (h : l.Perm (List.range 2)) (g : l.Pairwise (SR ss2)) : l = [0, 1] := by
 have hl := h.length_eq
 have h2 : List.range 2 = [0, 1] := rfl
 rw [h2] at h hl
 match l, hl with
 |
  [a, b], _ =>
  have ha : a ∈ [0, 1] := h.mem_iff.1 (by simp)
  have hb : b ∈ [0, 1] := h.mem_iff.1 (by simp)
  have hab : SR ss2 a b := by
   have := List.pairwise_cons.1 g
   exact this.1 b (by simp)
  simp only [List.mem_cons, List.not_mem_nil, or_false] at ha hb
  rcases ha with rfl | rfl <;> rcases hb with rfl | rfl
  · exfalso; unfold SR at hab; omega
  · rfl
  · exfalso; unfold SR at hab; simp [ss2] at hab
  · exfalso; unfold SR at hab; omega
theorem known_vs {w : World} {Ga Gb : Nat} {z1 z2 za zb : Rv} (h : ∀ x ∈ knAB Ga Gb z1 z2 za zb, IsS w x.1 x.2 2) : csOf w 2 (knAB Ga Gb z1 z2 za zb) = [[0, 1], [0]] := by
 have e : ((2 : Nat) : Int) = 2 := rfl
 unfold csOf knAB
 rw [List.map_cons, List.map_cons, List.map_nil, vr_yes (by rw [e]; exact h _ (by simp [knAB])), vr_yes (by rw [e]; exact h _ (by simp [knAB]))]
 rfl
theorem known_may {w : World} {Ga Gb : Nat} {z1 z2 za zb : Rv} (h : ∀ x ∈ knAB Ga Gb z1 z2 za zb, IsS w x.1 x.2 2) : May w 2 2 (knAB Ga Gb z1 z2 za zb) 2 [-1, -1] k0 :=
 ⟨by omega, by omega, rfl, h, ⟨fun _ _ _ q => (by cases q), fun _ _ _ _ _ q => (by cases q), fun _ _ => rfl⟩, rfl, by
  show failN 2 (csOf w 2 _) = 0
  rw [known_vs h]; decide⟩
theorem known_settled {w W : World} {Ga Gb : Nat} {z1 z2 za zb : Rv} {e : Ending} {w' : World} (h : ∀ x ∈ knAB Ga Gb z1 z2 za zb, IsS w x.1 x.2 2) (hp : StPost w 2 2 (knAB Ga Gb z1 z2 za zb) 2 [-1, -1] W e w') :
  ∃ g c, e = .returned (.tuple #[.slice (some ⟨g, 0, none⟩) 2 c, .bool true]) ∧ OwnZ w' W.heap.size (some ⟨g, 0, none⟩) c 2 [1, 0] ∧ Below W.heap.size W w' := by
 obtain ⟨hb, _, h2⟩ := hp
 obtain ⟨g, c, l, o', he, ho, hpm, hpw, hs⟩ := h2 k0 (known_may h)
 have ev : vsOf w (2 : Int).toNat (knAB Ga Gb z1 z2 za zb) = vs2 := by
  funext i
  show (csOf w 2 _).getD i [] = _
  rw [known_vs h]; rfl
 have es : ssOf (knAB Ga Gb z1 z2 za zb) = ss2 := by
  funext i
  unfold ssOf ss2 knAB
  rcases i with _ | _ | i
  · rfl
  · rfl
  · simp
 rw [ev, es] at hs
 rw [es] at hpw
 rw [known_order hpm hpw] at hs
 have : o' = k3 := hs.det known_stl
 subst this
 exact ⟨g, c, he, ho, hb⟩
end Go.Proofs.Ytjbhhccklfddaaa
