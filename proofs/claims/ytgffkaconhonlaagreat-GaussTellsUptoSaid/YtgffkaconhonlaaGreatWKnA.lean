/-
  Two sums of two variables, in numbers.
  Two sums of two variables, in memory.
-/
import Derived.Test.YtgffkaconhonlaaGreatWGsI
import Derived.Test.YtgffkaconhonlaaGreatWGsJ
namespace Go.Proofs.YtgffkaconhonlaaGreat
set_option maxRecDepth 20000
open Go.RowKit
def fa2 : Nat → Rat := fn 2 [((0 : Int), ((1 : Int) : Rat)), ((1 : Int), ((1 : Int) : Rat))] ((-3 : Int) : Rat)
def fb2 : Nat → Rat := fn 2 [((0 : Int), ((1 : Int) : Rat)), ((1 : Int), ((-1 : Int) : Rat))] ((-1 : Int) : Rat)
theorem fa2_0 : fa2 0 = 1 := by decide +kernel
theorem fa2_1 : fa2 1 = 1 := by decide +kernel
theorem fa2_2 : fa2 2 = -3 := by decide +kernel
theorem fb2_0 : fb2 0 = 1 := by decide +kernel
theorem fb2_1 : fb2 1 = -1 := by decide +kernel
theorem fb2_2 : fb2 2 = -1 := by decide +kernel
theorem dot_two (f x : Nat → Rat) : dot 2 f x = 0 + f 0 * x 0 + f 1 * x 1 + f 2 := rfl
theorem known_sat (x : Nat → Rat) : Sat 2 [fa2, fb2] x ↔ x 0 = 2 ∧ x 1 = 1 := by
 constructor
 ·
  intro h
  have h1 := h fa2 (by simp)
  have h2 := h fb2 (by simp)
  rw [dot_two, fa2_0, fa2_1, fa2_2] at h1
  rw [dot_two, fb2_0, fb2_1, fb2_2] at h2
  constructor <;> grind
 ·
  rintro ⟨h1, h2⟩ f hf
  rw [dot_two, h1, h2]
  rcases List.mem_cons.1 hf with rfl | hf
  · rw [fa2_0, fa2_1, fa2_2]; decide +kernel
  · rw [List.mem_singleton.1 hf, fb2_0, fb2_1, fb2_2]; decide +kernel
theorem known_basis : Basis 2 [fa2, fb2, fa2] [fa2, fb2] := by
 have hm : ∀ (S : List (Nat → Rat)) (f : Nat → Rat), f ∈ S → Sp 2 S f := fun S f hf => Sp.mem hf
 refine ⟨fun u hu i hi => ?_, fun r hr => hm _ _ ?_, fun s hs => hm _ _ ?_⟩
 ·
  have h0 : 0 + u 0 * fa2 0 + u 1 * fb2 0 = 0 := hu 0 (by omega)
  have h1 : 0 + u 0 * fa2 1 + u 1 * fb2 1 = 0 := hu 1 (by omega)
  rw [fa2_0, fb2_0] at h0
  rw [fa2_1, fb2_1] at h1
  have hi2 : i < 2 := hi
  have : i = 0 ∨ i = 1 := by omega
  rcases this with rfl | rfl <;> grind
 ·
  rcases List.mem_cons.1 hr with rfl | hr
  · simp
  · rw [List.mem_singleton.1 hr]; simp
 ·
  rcases List.mem_cons.1 hs with rfl | hs
  · simp
  ·
   rcases List.mem_cons.1 hs with rfl | hs
   · simp
   · rw [List.mem_singleton.1 hs]; simp
theorem known_rank {R : List (Nat → Rat)} (h : Basis 2 [fa2, fb2, fa2] R) : R.length = 2 :=
 h.same known_basis (fun _ hs => Sp.mem hs) (fun _ hs => Sp.mem hs)
end Go.Proofs.YtgffkaconhonlaaGreat

namespace Go.Proofs.YtgffkaconhonlaaGreat
set_option maxRecDepth 20000
open Go.RowKit
theorem Rt.nrm {w : World} {lo : Nat} {v : Rv} {r : Rat} (h : Rt w lo v r) : Nrm w v :=
 ⟨_, _, h.num.lower (Nat.zero_le _), h.den.lower (Nat.zero_le _), (IsN_iff _ _ _ h.num.l32 h.den.l32 r (by rw [val_lim, val_lim, h.sign]; exact rn_self r)).2 ⟨h.sign, rfl, rfl⟩⟩
theorem Row.apart5 {w : World} {lo n Y : Nat} {A : Option Addr} {l : List Nat} (h : Row w lo A n l) (k : C5 w Y (.int .i64 0) (.slice none 0 0) (.bool false) (.slice none 0 0) (.slice none 0 0)) (hn : 0 < n) : ∃ b' off, A = some ⟨b', off, none⟩ ∧ b' ≠ Y := by
 obtain ⟨b', off, e, h1, h2, hc⟩ := h.mem hn
 refine ⟨b', off, e, fun hbb => ?_⟩
 subst hbb
 have h' : w.heap[b']? = some (.cells #[Value.int .i64 0, .slice none 0 0, .bool false, .slice none 0 0, .slice none 0 0] 28 (0, 0)) := k
 have h0 := hc 0 hn
 rw [Nat.add_zero] at h0
 rcases Nat.lt_or_ge off 5 with h3 | h3
 ·
  have : off = 0 ∨ off = 1 ∨ off = 2 ∨ off = 3 ∨ off = 4 := by omega
  rcases this with rfl | rfl | rfl | rfl | rfl <;> simp [World.cell?, h'] at h0
 ·
  have hn : (#[Value.int .i64 0, .slice none 0 0, .bool false, .slice none 0 0, .slice none 0 0] : Array Value)[off]? = none := Array.getElem?_eq_none (by simpa using h3)
  simp [World.cell?, h', hn] at h0
theorem Row.put5z {w : World} {lo n Y : Nat} {A : Option Addr} {l : List Nat} (h : Row w lo A n l) (k : C5 w Y (.int .i64 0) (.slice none 0 0) (.bool false) (.slice none 0 0) (.slice none 0 0)) (x0 x1 x2 x3 x4 : Value) : Row (put5 w Y x0 x1 x2 x3 x4) lo A n l := by
 by_cases hn : 0 < n
 ·
  obtain ⟨b', off, e, hne⟩ := h.apart5 k hn
  have hs : ∀ ad, A = some ad → ad.block ≠ Y := by intro ad ea; rw [e] at ea; injection ea with ea; subst ea; exact hne
  exact ((((h.set _ hs).set _ hs).set _ hs).set _ hs).set _ hs
 ·
  have h0 : n = 0 := by omega
  subst h0
  exact ⟨h.len, h.l32, fun h => absurd h (by omega)⟩
theorem Rt.put5z {w : World} {lo Y : Nat} {r : Rat} {u : Rv} (h : Rt w lo u r) (k : C5 w Y (.int .i64 0) (.slice none 0 0) (.bool false) (.slice none 0 0) (.slice none 0 0)) (x0 x1 x2 x3 x4 : Value) : Rt (put5 w Y x0 x1 x2 x3 x4) lo u r :=
 ⟨h.1, h.2, h.3, h.4.put5z k _ _ _ _ _, h.5, h.6, h.7.put5z k _ _ _ _ _⟩
structure Two2 (w : World) (G : Nat) (z1 z2 z3 : Rv) (q1 q2 k : Rat) : Prop where
 cells : w.heap[G]? = some (.cells #[.int .i64 0, .bool z1.s, .slice z1.A z1.n z1.c, .slice z1.B z1.m z1.d, .int .i64 1, .bool z2.s, .slice z2.A z2.n z2.c, .slice z2.B z2.m z2.d] 47 (0, 0))
 n1 : Rt w 0 z1 q1
 n2 : Rt w 0 z2 q2
 n3 : Rt w 0 z3 k
section
variable {w w' W : World} {G Y : Nat} {z1 z2 z3 : Rv} {q1 q2 k : Rat}
theorem Two2.lt (h : Two2 w G z1 z2 z3 q1 q2 k) : G < w.heap.size := (Array.getElem?_eq_some_iff.1 h.cells).1
theorem Two2.below (h : Two2 w G z1 z2 z3 q1 q2 k) (hb : Below w.heap.size w w') : Two2 w' G z1 z2 z3 q1 q2 k :=
 ⟨(hb.block _ h.lt).trans h.cells, h.n1.below hb, h.n2.below hb, h.n3.below hb⟩
theorem Two2.put5z (h : Two2 w G z1 z2 z3 q1 q2 k) (hk : C5 w Y (.int .i64 0) (.slice none 0 0) (.bool false) (.slice none 0 0) (.slice none 0 0)) (x0 x1 x2 x3 x4 : Value) : Two2 (put5 w Y x0 x1 x2 x3 x4) G z1 z2 z3 q1 q2 k := by
 have hne : G ≠ Y := by
  intro e
  subst e
  have h1 : w.heap[G]? = some (.cells #[Value.int .i64 0, .slice none 0 0, .bool false, .slice none 0 0, .slice none 0 0] 28 (0, 0)) := hk
  have h2 := h1.symm.trans h.cells
  injection h2 with h2
  injection h2 with h2
  have := congrArg Array.size h2
  simp at this
 exact ⟨(put5_but _ _ _ _ _ _ _ G h.lt hne).trans h.cells, h.n1.put5z hk _ _ _ _ _, h.n2.put5z hk _ _ _ _ _, h.n3.put5z hk _ _ _ _ _⟩
structure KinAt (W wx : World) (Y G : Nat) (z1 z2 z3 : Rv) (q1 q2 k : Rat) : Prop where
 cell : C5 wx Y (.int .i64 0) (.slice (some ⟨G, 0, none⟩) 2 2) (.bool z3.s) (.slice z3.A z3.n z3.c) (.slice z3.B z3.m z3.d)
 below : Below W.heap.size W wx
 two : Two2 wx G z1 z2 z3 q1 q2 k
theorem KinAt.put (hk : C5 w Y (.int .i64 0) (.slice none 0 0) (.bool false) (.slice none 0 0) (.slice none 0 0)) (hY : W.heap.size ≤ Y) (hb : Below W.heap.size W w) (h : Two2 w G z1 z2 z3 q1 q2 k) :
  KinAt W (put5 w Y (.int .i64 0) (.slice (some ⟨G, 0, none⟩) 2 2) (.bool z3.s) (.slice z3.A z3.n z3.c) (.slice z3.B z3.m z3.d)) Y G z1 z2 z3 q1 q2 k :=
 ⟨hk.put _ _ _ _ _, hb.trans (put5_below hY _ _ _ _ _), h.put5z hk _ _ _ _ _⟩
theorem KinAt.later (h : KinAt W w Y G z1 z2 z3 q1 q2 k) (hb : Below w.heap.size w w') : KinAt W w' Y G z1 z2 z3 q1 q2 k :=
 ⟨h.cell.below hb, h.below.trans (hb.mono h.below.size), h.two.below hb⟩
end
def kin2 (G : Nat) (z3 : Rv) (q1 q2 k : Rat) : Kin := ⟨⟨0, some ⟨G, 0, none⟩, 2, 2, z3⟩, [((0 : Int), q1), ((1 : Int), q2)], k, true⟩
theorem Two2.rd {w : World} {G : Nat} {z1 z2 z3 : Rv} {q1 q2 k : Rat} (h : Two2 w G z1 z2 z3 q1 q2 k) (s1 : Sz q1 1) (s2 : Sz q2 1) (s3 : Sz k 1) (h1 : q1 ≠ 0) (h2 : q2 ≠ 0) :
  (kin2 G z3 q1 q2 k).v.n ≤ (kin2 G z3 q1 q2 k).v.c ∧ (kin2 G z3 q1 q2 k).v.n ≤ 1000 ∧ Rw w (kin2 G z3 q1 q2 k).v.K (kin2 G z3 q1 q2 k).k 1 ∧ ∃ la, Tms w 0 (kin2 G z3 q1 q2 k).v.A (kin2 G z3 q1 q2 k).v.n la ∧ Rds w 1 la (kin2 G z3 q1 q2 k).L ∧ ((kin2 G z3 q1 q2 k).ok = true ↔ IsS w (kin2 G z3 q1 q2 k).v la ((2 : Nat) : Int)) := by
 have n1 : z1.n ≠ 0 := fun e => h1 ((zero_nrm h.n1.nrm (h.n1.rw s1)).2 e)
 have n2 : z2.n ≠ 0 := fun e => h2 ((zero_nrm h.n2.nrm (h.n2.rw s2)).2 e)
 refine ⟨Nat.le_refl _, show 2 ≤ 1000 by omega, h.n3.rw s3, [⟨0, z1⟩, ⟨1, z2⟩], ⟨rfl, fun _ => ⟨G, 0, rfl, Nat.zero_le _, h.lt, fun i x hx => ?_⟩⟩, ⟨⟨rfl, h.n1.rw s1⟩, ⟨rfl, h.n2.rw s2⟩, trivial⟩, ⟨fun _ => ⟨⟨by show (0 : Int) ≤ 0; omega, by show (0 : Int) ≤ 4; omega⟩, h.n3.nrm, fun j x hj hx => ?_⟩, fun _ => rfl⟩⟩
 ·
  have hi : i < 2 := (List.getElem?_eq_some_iff.1 hx).1
  have hG := h.cells
  have : i = 0 ∨ i = 1 := by omega
  rcases this with rfl | rfl
  ·
   injection hx with hx; subst hx
   constructor <;> simp [World.cell?, hG]
  ·
   injection hx with hx; subst hx
   constructor <;> simp [World.cell?, hG]
 ·
  have hj2 : j < 2 := hj
  have : j = 0 ∨ j = 1 := by omega
  rcases this with rfl | rfl
  ·
   injection hx with hx; subst hx
   exact ⟨by show (0 : Int) ≤ 0; omega, by show (0 : Int) < 2; omega, fun y h0 => absurd h0 (Nat.lt_irrefl _), h.n1.nrm, n1⟩
  ·
   injection hx with hx; subst hx
   refine ⟨by show (0 : Int) ≤ 1; omega, by show (1 : Int) < 2; omega, fun y _ hy => ?_, h.n2.nrm, n2⟩
   injection hy with hy; subst hy
   show (0 : Int) < 1; omega
theorem kons_two {w : World} {G : Nat} {va vb : Cv} (hG : w.heap[G]? = some (.cells #[.int .i64 va.s, .slice va.A va.n va.c, .bool va.K.s, .slice va.K.A va.K.n va.K.c, .slice va.K.B va.K.m va.K.d, .int .i64 vb.s, .slice vb.A vb.n vb.c, .bool vb.K.s, .slice vb.K.A vb.K.n vb.K.c, .slice vb.K.B vb.K.m vb.K.d] 28 (0, 0))) : Kons w (some ⟨G, 0, none⟩) 2 [va, vb] :=
 ⟨rfl, fun _ => ⟨G, 0, rfl, (Array.getElem?_eq_some_iff.1 hG).1, fun i x hx => by
  have hi : i < 2 := (List.getElem?_eq_some_iff.1 hx).1
  have : i = 0 ∨ i = 1 := by omega
  rcases this with rfl | rfl
  ·
   injection hx with hx; subst hx
   constructor <;> simp [World.cell?, hG]
  ·
   injection hx with hx; subst hx
   constructor <;> simp [World.cell?, hG]⟩⟩
theorem kons_three {w : World} {G : Nat} {va vb vc : Cv} (hG : w.heap[G]? = some (.cells #[.int .i64 va.s, .slice va.A va.n va.c, .bool va.K.s, .slice va.K.A va.K.n va.K.c, .slice va.K.B va.K.m va.K.d, .int .i64 vb.s, .slice vb.A vb.n vb.c, .bool vb.K.s, .slice vb.K.A vb.K.n vb.K.c, .slice vb.K.B vb.K.m vb.K.d, .int .i64 vc.s, .slice vc.A vc.n vc.c, .bool vc.K.s, .slice vc.K.A vc.K.n vc.K.c, .slice vc.K.B vc.K.m vc.K.d] 28 (0, 0))) : Kons w (some ⟨G, 0, none⟩) 3 [va, vb, vc] :=
 ⟨rfl, fun _ => ⟨G, 0, rfl, (Array.getElem?_eq_some_iff.1 hG).1, fun i x hx => by
  have hi : i < 3 := (List.getElem?_eq_some_iff.1 hx).1
  have : i = 0 ∨ i = 1 ∨ i = 2 := by omega
  rcases this with rfl | rfl | rfl
  ·
   injection hx with hx; subst hx
   constructor <;> simp [World.cell?, hG]
  ·
   injection hx with hx; subst hx
   constructor <;> simp [World.cell?, hG]
  ·
   injection hx with hx; subst hx
   constructor <;> simp [World.cell?, hG]⟩⟩
theorem sz_few (i : Int) (h : i = 1 ∨ i = -1 ∨ i = -3) : Sz ((i : Int) : Rat) 1 := by
 rcases h with rfl | rfl | rfl
 · exact one_sz
 · exact ⟨show (1 : Nat) < 4294967296 ^ 1 by omega, show (1 : Nat) < 4294967296 ^ 1 by omega⟩
 · exact ⟨show (3 : Nat) < 4294967296 ^ 1 by omega, show (1 : Nat) < 4294967296 ^ 1 by omega⟩
structure Kn2 (w : World) (Ga Gb : Nat) (z1 ka z2 kb : Rv) : Prop where
 a : Two2 w Ga z1 z1 ka ((1 : Int) : Rat) ((1 : Int) : Rat) ((-3 : Int) : Rat)
 b : Two2 w Gb z1 z2 kb ((1 : Int) : Rat) ((-1 : Int) : Rat) ((-1 : Int) : Rat)
theorem Kn2.below {w w' : World} {Ga Gb : Nat} {z1 ka z2 kb : Rv} (h : Kn2 w Ga Gb z1 ka z2 kb) (hb : Below w.heap.size w w') : Kn2 w' Ga Gb z1 ka z2 kb := ⟨h.a.below hb, h.b.below hb⟩
def kinA (G : Nat) (z : Rv) : Kin := kin2 G z ((1 : Int) : Rat) ((1 : Int) : Rat) ((-3 : Int) : Rat)
def kinB (G : Nat) (z : Rv) : Kin := kin2 G z ((1 : Int) : Rat) ((-1 : Int) : Rat) ((-1 : Int) : Rat)
theorem int_ne {i : Int} (h : i ≠ 0) : ((i : Int) : Rat) ≠ 0 := fun e => h (by exact_mod_cast e)
theorem Kn2.kns {w : World} {Ga Gb : Nat} {z1 ka z2 kb : Rv} (h : Kn2 w Ga Gb z1 ka z2 kb) {A : Option Addr} {m : Nat} {vs : List Kin} (hk : Kons w A m (vs.map (·.v))) (hv : ∀ x ∈ vs, x = kinA Ga ka ∨ x = kinB Gb kb) : Kns 2 1 w A m vs :=
 ⟨hk, fun x hx => by
  rcases hv x hx with rfl | rfl
  · exact h.a.rd (sz_few 1 (by omega)) (sz_few 1 (by omega)) (sz_few (-3) (by omega)) (int_ne (by omega)) (int_ne (by omega))
  · exact h.b.rd (sz_few 1 (by omega)) (sz_few (-1) (by omega)) (sz_few (-1) (by omega)) (int_ne (by omega)) (int_ne (by omega))⟩
theorem sums_ab (Ga Gb : Nat) (ka kb : Rv) : sums 2 [kinA Ga ka, kinB Gb kb] = [fa2, fb2] := rfl
theorem sums_aba (Ga Gb : Nat) (ka kb : Rv) : sums 2 [kinA Ga ka, kinB Gb kb, kinA Ga ka] = [fa2, fb2, fa2] := rfl
theorem known_sol : ∃ x, Sat 2 [fa2, fb2] x ∧ x 0 = ((2 : Int) : Rat) := ⟨fun i => if i = 0 then 2 else 1, (known_sat _).2 ⟨rfl, rfl⟩, rfl⟩
theorem known_fix {Ga Gb : Nat} {ka kb : Rv} {w w' : World} {e : Ending} (h : FixPost 2 [kinA Ga ka, kinB Gb kb] 0 w e w') : ∃ z : Rv, e = .returned (.tuple #[.agg #[.bool z.s, .slice z.A z.n z.c, .slice z.B z.m z.d], .bool true]) ∧ Rw w' z ((2 : Int) : Rat) 1000000000 ∧ Below w.heap.size w w' := by
 obtain ⟨z, b, q, he, hz, hb, h1, h2⟩ := h
 rw [sums_ab] at h1 h2
 obtain ⟨x, hx, hx0⟩ := known_sol
 cases b with
 |
  false =>
  exact absurd ⟨⟨x, hx⟩, by omega, by omega, ((2 : Int) : Rat), fun y hy => ((known_sat y).1 hy).1⟩ (h2 rfl).2
 |
  true =>
  have := (h1 rfl).2.2.2 x hx
  have e2 : q = ((2 : Int) : Rat) := this.symm.trans hx0
  subst e2
  exact ⟨z, he, hz, hb⟩
theorem known_rk {Ga Gb : Nat} {ka kb : Rv} {w w' : World} {e : Ending} (h : RankPost 2 [kinA Ga ka, kinB Gb kb, kinA Ga ka] w e w') : e = .returned (.int .i64 2) ∧ Below w.heap.size w w' := by
 obtain ⟨R, he, hB, hb⟩ := h
 rw [sums_aba] at hB
 rw [known_rank hB] at he
 exact ⟨he, hb⟩
end Go.Proofs.YtgffkaconhonlaaGreat
