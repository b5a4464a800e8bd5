/-
  Whether sums are more than is looked at.
  Rows of sums that a call makes: what they hold, two of them swapped.
  Whether sums are more than is looked at (chapter 11's).
-/
import Derived.Test.YtjbhhccklfddaaaVMAa
import Derived.BigQuiet
import Derived.Laws.AppendOwn
import Derived.Laws.OwnMore
import Derived.Deep.AppendLies
namespace Go.Proofs.Ytjbhhccklfddaaa
set_option maxRecDepth 20000
open Go.RowKit
def costK (l : List Tv) : Nat → Nat
 | 0 => 0
 | k + 1 => costK l k + (match l[k]? with | some x => 1 + x.r.n + x.r.m | none => 0)
theorem costK_succ {l : List Tv} {k : Nat} {x : Tv} (h : l[k]? = some x) : costK l (k + 1) = costK l k + (1 + x.r.n + x.r.m) := by
 rw [costK, h]
theorem costK_mono (l : List Tv) {i j : Nat} (h : i ≤ j) : costK l i ≤ costK l j := by
 induction j with
 | zero => rw [show i = 0 by omega]; exact Nat.le_refl _
 |
  succ j ih =>
  by_cases e : i = j + 1
  · rw [e]; exact Nat.le_refl _
  · exact Nat.le_trans (ih (by omega)) (by rw [costK]; omega)
theorem costK_le (l : List Tv) (B : Nat) (hB : ∀ x ∈ l, x.r.n ≤ B ∧ x.r.m ≤ B) (k : Nat) : costK l k ≤ k * (1 + 2 * B) := by
 induction k with
 | zero => exact Nat.zero_le _
 |
  succ k ih =>
  rw [costK, Nat.succ_mul]
  cases hx : l[k]? with
  | none => show _ + 0 ≤ _; omega
  |
   some x =>
   have := hB x (List.mem_of_getElem? hx)
   show _ + (1 + x.r.n + x.r.m) ≤ _
   omega
def cost (v : Cv) (l : List Tv) : Nat := 2 + v.K.n + v.K.m + costK l v.n
theorem cost_get {v : Cv} {l : List Tv} {i : Nat} {x : Tv} (hl : l.length = v.n) (h : l[i]? = some x) : x.r.n ≤ cost v l ∧ x.r.m ≤ cost v l := by
 have hi := (List.getElem?_eq_some_iff.1 h).1
 have h1 := costK_mono l (show i + 1 ≤ v.n by omega)
 rw [costK_succ h] at h1
 unfold cost
 omega
theorem costK_len (l : List Tv) : ∀ k, k ≤ l.length → k ≤ costK l k
 | 0, _ => Nat.zero_le _
 |
  k + 1, h => by
  have := costK_len l k (by omega)
  rw [costK_succ (List.getElem?_eq_getElem (by omega))]
  omega
structure Fit (w : World) (v : Cv) (l : List Tv) : Prop where
 row : Tms w 0 v.A v.n l
 n : v.n ≤ 1048576
 kn : v.K.n ≤ 1048576
 km : v.K.m ≤ 1048576
 cap : v.n ≤ v.c
 each : ∀ x ∈ l, x.r.n ≤ 1048576 ∧ x.r.m ≤ 1048576
def HPost (S : Nat) (w : World) (e : Ending) (w' : World) : Prop := ∃ r : Bool, e = .returned (.bool r) ∧ (r = false → S ≤ 150) ∧ Below w.heap.size w w'
end Go.Proofs.Ytjbhhccklfddaaa

namespace Go.Proofs.Ytjbhhccklfddaaa
set_option maxRecDepth 20000
open Go.RowKit
def kcells (v : Cv) : List Value := [.int .i64 v.s, .slice v.A v.n v.c, .bool v.K.s, .slice v.K.A v.K.n v.K.c, .slice v.K.B v.K.m v.K.d]
structure At5 (w : World) (b o : Nat) (v : Cv) : Prop where
 h0 : w.cell? ⟨b, o, none⟩ = some (.int .i64 v.s)
 h1 : w.cell? ⟨b, o + 1, none⟩ = some (.slice v.A v.n v.c)
 h2 : w.cell? ⟨b, o + 2, none⟩ = some (.bool v.K.s)
 h3 : w.cell? ⟨b, o + 3, none⟩ = some (.slice v.K.A v.K.n v.K.c)
 h4 : w.cell? ⟨b, o + 4, none⟩ = some (.slice v.K.B v.K.m v.K.d)
theorem At5.keep {w w' : World} {b o : Nat} {v : Cv} (h : At5 w b o v) (hk : w'.heap[b]? = w.heap[b]?) : At5 w' b o v := by
 have e : ∀ j, w'.cell? ⟨b, j, none⟩ = w.cell? ⟨b, j, none⟩ := fun j => World.cell?_of_block hk
 exact ⟨(e _).trans h.h0, (e _).trans h.h1, (e _).trans h.h2, (e _).trans h.h3, (e _).trans h.h4⟩
theorem At5.new (w : World) (v : Cv) : At5 (w.alloc (.cells #[.int .i64 v.s, .slice v.A v.n v.c, .bool v.K.s, .slice v.K.A v.K.n v.K.c, .slice v.K.B v.K.m v.K.d] 43)) w.heap.size 0 v := by
 constructor <;> (rw [World.cell?_alloc_at _ _ _ _ rfl]; rfl)
structure Kons (w : World) (A : Option Addr) (n : Nat) (l : List Cv) : Prop where
 len : l.length = n
 mem : 0 < n → ∃ b off, A = some ⟨b, off, none⟩ ∧ b < w.heap.size ∧ ∀ i x, l[i]? = some x → At5 w b (off + i * 5) x
theorem Kons.below {w w' : World} {n : Nat} {A : Option Addr} {l : List Cv} (h : Kons w A n l) (hb : Below w.heap.size w w') : Kons w' A n l :=
 ⟨h.len, fun hn => by
  obtain ⟨b, off, e, h1, hc⟩ := h.mem hn
  exact ⟨b, off, e, Nat.lt_of_lt_of_le h1 hb.size, fun i x hx => (hc i x hx).keep (hb.block b h1)⟩⟩
structure OwnC (w : World) (lo : Nat) (A : Option Addr) (c n : Nat) (l : List Cv) : Prop where
 len : l.length = n
 own : w.ownsRow lo 43 5 (.slice A n c) n (l.flatMap kcells)
theorem flatC_get : ∀ (l : List Cv) (i j : Nat) (x : Cv), l[i]? = some x → j < 5 → (l.flatMap kcells)[i * 5 + j]? = (kcells x)[j]?
 | [], _, _, _, h, _ => by simp at h
 |
  y :: l, 0, j, x, h, hj => by
  simp at h
  subst h
  rw [List.flatMap_cons, Nat.zero_mul, Nat.zero_add, List.getElem?_append_left (by show j < 5; exact hj)]
 |
  y :: l, i + 1, j, x, h, hj => by
  rw [List.flatMap_cons, List.getElem?_append_right (by show 5 ≤ _; omega)]
  rw [show (i + 1) * 5 + j - (kcells y).length = i * 5 + j by show _ - 5 = _; omega]
  exact flatC_get l i j x (by simpa using h) hj
theorem OwnC.mem {w : World} {lo c n : Nat} {A : Option Addr} {l : List Cv} (h : OwnC w lo A c n l) (hn : 0 < n) : ∃ b, A = some ⟨b, 0, none⟩ ∧ lo ≤ b ∧ b < w.heap.size ∧ ∀ i x, l[i]? = some x → At5 w b (i * 5) x := by
 rcases h.own.2 with ⟨hv, h0⟩ | ⟨g, cap, cur, hv, hb, hh, hc, hm, hs, ht⟩
 · omega
 ·
  injection hv with hA _ _
  refine ⟨g, hA, hb, ?_, fun i x hx => ?_⟩
  ·
   rcases Nat.lt_or_ge g w.heap.size with h1 | h1
   · exact h1
   ·
    have : w.heap[g]? = none := Array.getElem?_eq_none h1
    rw [this] at hh; cases hh
  ·
   have hi : i < n := by rw [← h.len]; exact (List.getElem?_eq_some_iff.1 hx).1
   have hg : ∀ j, j < 5 → w.cell? ⟨g, i * 5 + j, none⟩ = (kcells x)[j]? := fun j hj => by
    have e1 : w.cell? ⟨g, i * 5 + j, none⟩ = cur[i * 5 + j]? := by simp [World.cell?, hh]
    rw [e1, ← flatC_get l i j x hx hj, ← ht, List.getElem?_take, if_pos (by omega), Array.getElem?_toList]
   exact ⟨hg 0 (by omega), hg 1 (by omega), hg 2 (by omega), hg 3 (by omega), hg 4 (by omega)⟩
theorem OwnC.kons {w : World} {lo c n : Nat} {A : Option Addr} {l : List Cv} (h : OwnC w lo A c n l) : Kons w A n l := by
 refine ⟨h.len, fun hn => ?_⟩
 obtain ⟨b, e, _, h1, hc⟩ := h.mem hn
 exact ⟨b, 0, e, h1, fun i x hx => by rw [Nat.zero_add]; exact hc i x hx⟩
theorem OwnC.nil_ (w : World) (lo : Nat) : OwnC w lo none 0 0 [] := ⟨rfl, World.ownsRow_nil w lo _ 5⟩
theorem OwnC.grown {w w' : World} {lo c n : Nat} {A : Option Addr} {l : List Cv} (h : OwnC w lo A c n l) {row : Option Nat} (hg : w.grownBy w' row) (hne : ∀ ad, A = some ad → some ad.block ≠ row) : OwnC w' lo A c n l := by
 refine ⟨h.len, h.own.kept hg ?_⟩
 cases A with
 | none => left; rfl
 | some ad => right; exact hne ad rfl
theorem OwnC.below {w w' : World} {lo c n : Nat} {A : Option Addr} {l : List Cv} (h : OwnC w lo A c n l) (hb : Below w.heap.size w w') : OwnC w' lo A c n l := h.grown (grown_of_below hb) (fun _ _ => by simp)
theorem OwnC.lower {w : World} {lo lo' c n : Nat} {A : Option Addr} {l : List Cv} (h : OwnC w lo A c n l) (hl : lo' ≤ lo) : OwnC w lo' A c n l := by
 refine ⟨h.len, h.own.1, ?_⟩
 rcases h.own.2 with hn | ⟨g, cap, cur, hv, hb, rest⟩
 · exact .inl hn
 · exact .inr ⟨g, cap, cur, hv, by omega, rest⟩
theorem OwnC.capLe {w : World} {lo c n : Nat} {A : Option Addr} {l : List Cv} (h : OwnC w lo A c n l) : n ≤ c := by
 rcases h.own.2 with ⟨hv, hn⟩ | ⟨g, cap, cur, hv, _, _, hc, _⟩
 · omega
 · injection hv with _ _ hc2; omega
theorem OwnC.lt {w : World} {lo n c : Nat} {A : Option Addr} {l : List Cv} (h : OwnC w lo A c n l) : ∀ ad, A = some ad → lo ≤ ad.block ∧ ad.block < w.heap.size := by
 intro ad e
 subst e
 exact h.own.lt ad.block rfl
theorem OwnC.thaw {w : World} {lo n c g : Nat} {l : List Cv} (h : OwnC w lo (some ⟨g, 0, none⟩) c n l) (j : Nat) : w.frozen? ⟨g, j, none⟩ = false := h.own.frozenAt _
abbrev putC (w : World) (b o : Nat) (v : Cv) : World := ((((w.setCell ⟨b, o, none⟩ (.int .i64 v.s)).setCell ⟨b, o + 1, none⟩ (.slice v.A v.n v.c)).setCell ⟨b, o + 2, none⟩ (.bool v.K.s)).setCell ⟨b, o + 3, none⟩ (.slice v.K.A v.K.n v.K.c)).setCell ⟨b, o + 4, none⟩ (.slice v.K.B v.K.m v.K.d)
theorem flatC_set : ∀ (l : List Cv) (j : Nat) (t : Cv), (((((l.flatMap kcells).set (j * 5) (.int .i64 t.s)).set (j * 5 + 1) (.slice t.A t.n t.c)).set (j * 5 + 2) (.bool t.K.s)).set (j * 5 + 3) (.slice t.K.A t.K.n t.K.c)).set (j * 5 + 4) (.slice t.K.B t.K.m t.K.d) = (l.set j t).flatMap kcells
 | [], j, t => by simp
 | x :: l, 0, t => rfl
 |
  x :: l, j + 1, t => by
  have e : ∀ (y : Cv) (k : List Cv), (y :: k).flatMap kcells = .int .i64 y.s :: .slice y.A y.n y.c :: .bool y.K.s :: .slice y.K.A y.K.n y.K.c :: .slice y.K.B y.K.m y.K.d :: k.flatMap kcells := fun _ _ => rfl
  rw [List.set_cons_succ, e, e, ← flatC_set l j t, show (j + 1) * 5 = j * 5 + 1 + 1 + 1 + 1 + 1 by omega, show j * 5 + 1 + 1 + 1 + 1 + 1 + 2 = (j * 5 + 2) + 1 + 1 + 1 + 1 + 1 by omega, show j * 5 + 1 + 1 + 1 + 1 + 1 + 3 = (j * 5 + 3) + 1 + 1 + 1 + 1 + 1 by omega, show j * 5 + 1 + 1 + 1 + 1 + 1 + 4 = (j * 5 + 4) + 1 + 1 + 1 + 1 + 1 by omega]
  simp only [List.set_cons_succ]
theorem OwnC.set {w : World} {lo c n g j : Nat} {l : List Cv} {t : Cv} (h : OwnC w lo (some ⟨g, 0, none⟩) c n l) : OwnC (putC w g (j * 5) t) lo (some ⟨g, 0, none⟩) c n (l.set j t) := by
 refine ⟨by rw [List.length_set, h.len], ?_⟩
 rw [← flatC_set]
 exact ((((((h.own.stored (j * 5) (.int .i64 t.s)).1).stored (j * 5 + 1) (.slice t.A t.n t.c)).1.stored (j * 5 + 2) (.bool t.K.s)).1.stored (j * 5 + 3) (.slice t.K.A t.K.n t.K.c)).1.stored (j * 5 + 4) (.slice t.K.B t.K.m t.K.d)).1
structure Srt (lo c n g : Nat) (l : List Cv) (w wr : World) : Prop where
 it : ∃ l2 : List Cv, l2.Perm l ∧ OwnC wr lo (some ⟨g, 0, none⟩) c n l2
 grown : w.grownBy wr (some g)
theorem grown_refl (w : World) (g : Option Nat) : w.grownBy w g := ⟨rfl, rfl, rfl, Nat.le_refl _, fun _ _ _ => rfl⟩
theorem Srt.start {lo c n g : Nat} {l : List Cv} {w : World} (h : OwnC w lo (some ⟨g, 0, none⟩) c n l) : Srt lo c n g l w w := ⟨⟨l, .refl _, h⟩, grown_refl _ _⟩
theorem Srt.below {lo c n g : Nat} {l : List Cv} {w wr w2 : World} (h : Srt lo c n g l w wr) (hb : Below wr.heap.size wr w2) : Srt lo c n g l w w2 := by
 obtain ⟨⟨l2, hp, ho⟩, hg⟩ := h
 exact ⟨⟨l2, hp, ho.below hb⟩, hg.trans (grown_row hb _)⟩
theorem Srt.trans {lo c n g : Nat} {l : List Cv} {w wr w2 : World} (h : Srt lo c n g l w wr) (h2 : ∀ l', OwnC wr lo (some ⟨g, 0, none⟩) c n l' → Srt lo c n g l' wr w2) : Srt lo c n g l w w2 := by
 obtain ⟨⟨l', hp, ho⟩, hg⟩ := h
 obtain ⟨⟨l2, hp2, ho2⟩, hg2⟩ := h2 l' ho
 exact ⟨⟨l2, hp2.trans hp, ho2⟩, hg.trans hg2⟩
end Go.Proofs.Ytjbhhccklfddaaa

namespace Go.Proofs.Ytjbhhccklfddaaa
set_option maxRecDepth 20000
open Go.RowKit
def costA (ps : List (Cv × List Tv)) : Nat → Nat
 | 0 => 0
 | i + 1 => costA ps i + (match ps[i]? with | some x => cost x.1 x.2 | none => 0)
theorem costA_succ {ps : List (Cv × List Tv)} {i : Nat} {x : Cv × List Tv} (h : ps[i]? = some x) : costA ps (i + 1) = costA ps i + cost x.1 x.2 := by
 rw [costA, h]
theorem costA_mono (l : List (Cv × List Tv)) {i j : Nat} (h : i ≤ j) : costA l i ≤ costA l j := by
 induction j with
 | zero => rw [show i = 0 by omega]; exact Nat.le_refl _
 |
  succ j ih =>
  by_cases e : i = j + 1
  · rw [e]; exact Nat.le_refl _
  · exact Nat.le_trans (ih (by omega)) (by rw [costA]; omega)
theorem costA_get {ps : List (Cv × List Tv)} {i : Nat} {x : Cv × List Tv} (h : ps[i]? = some x) : cost x.1 x.2 ≤ costA ps ps.length := by
 have hi := (List.getElem?_eq_some_iff.1 h).1
 have h1 := costA_mono ps (show i + 1 ≤ ps.length by omega)
 rw [costA_succ h] at h1
 omega
theorem costA_len (ps : List (Cv × List Tv)) : ∀ k, k ≤ ps.length → 2 * k ≤ costA ps k
 | 0, _ => Nat.zero_le _
 |
  k + 1, h => by
  have := costA_len ps k (by omega)
  rw [costA_succ (List.getElem?_eq_getElem (by omega))]
  unfold cost
  omega
set_option maxHeartbeats 6400000 in
theorem heavyH_c (A : Option Addr) (m c : Nat) (ps : List (Cv × List Tv)) (w : World) (hk : Kons w A m (ps.map (·.1))) (hf : ∀ x ∈ ps, Fit w x.1 x.2) (hm : m ≤ 1048576) :
  Calls Try.prog 11 #[.slice A m c] w (HPost (costA ps m) w) := by
 have HK := Lib.hid hk
 have HF := Lib.hid hf
 clear hk hf
 have m1 : (m : Int) ≤ 1048576 := by omega
 have m0 : (0 : Int) ≤ (m : Int) := by omega
 go_enter Try.func11, Try.ntmps11
 go_wp2
 go_loopw [2, 3, 4, 5] (fun _ nv iv _ wr => ∃ (i n : Nat), i ≤ m ∧ n ≤ 150 ∧ iv = .int .i64 i ∧ nv = .int .i64 n ∧ Hid (Below w.heap.size w wr) ∧ Hid (n = costA ps i)) (fun _ _ iv _ _ => m - (intOf iv).toNat)
 case atStart => exact ⟨0, 0, by omega, by omega, rfl, rfl, Lib.hid (Below.refl _ _), Lib.hid rfl⟩
 case round =>
  obtain ⟨i, n, hi, hn, rfl, rfl, HBR, HC⟩ := hrel
  have n0 : (0 : Int) ≤ (n : Int) := by omega
  have n1 : (n : Int) ≤ 150 := by omega
  have i0 : (0 : Int) ≤ (i : Int) := by omega
  by_cases him : i < m
  ·
   have i1 : (i : Int) < (m : Int) := by omega
   have hlen : ps.length = m := by have := HK.out.len; rw [List.length_map] at this; exact this
   have hil : i < ps.length := by omega
   obtain ⟨b, off, hA, hbw, hcc⟩ := HK.out.mem (by omega)
   have hx := List.getElem?_eq_getElem hil
   have hxm : (ps.map (·.1))[i]? = some ps[i].1 := by rw [List.getElem?_map, hx]; rfl
   have HF1 := Lib.hid (HF.out _ (List.getElem_mem hil))
   have HX := Lib.hid hx
   have HCC : Hid (∀ w', Below w.heap.size w w' → At5 w' b (off + i * 5) ps[i].1) := fun w' h => (hcc i _ hxm).keep (h.block b hbw)
   generalize ps[i] = x at *
   obtain ⟨va, la⟩ := x
   replace HCC : Hid (∀ w', Below w.heap.size w w' → At5 w' b (off + i * 5) va) := HCC
   replace HF1 : Hid (Fit w va la) := HF1
   replace HX : Hid (ps[i]? = some (va, la)) := HX
   obtain ⟨k0, k1, k2, k3, k4⟩ := HCC.out _ HBR.out
   have a1 := HF1.out.kn
   have a2 := HF1.out.km
   have a3 := HF1.out.n
   have c1 : (va.K.n : Int) ≤ 1048576 := by omega
   have c2 : (va.K.m : Int) ≤ 1048576 := by omega
   have c3 : (va.n : Int) ≤ 1048576 := by omega
   have c0 : (0 : Int) ≤ (va.n : Int) := by omega
   subst hA
   clear hx hxm hcc hlen
   go_wp2_with fail
   go_region
   go_wp2
   clear k0 k1 k2 k3 k4
   go_loopw [3, 5] (fun nv kv wx => ∃ (k q : Nat), k ≤ va.n ∧ q ≤ 3000000000000 ∧ kv = .int .i64 k ∧ nv = .int .i64 q ∧ Hid (q = n + (2 + va.K.n + va.K.m + costK la k)) ∧ Hid (Below w.heap.size w wx)) (fun _ kv _ => va.n - (intOf kv).toNat)
   case atStart => exact ⟨0, n + 2 + va.K.n + va.K.m, by omega, by omega, rfl, by go_num, Lib.hid (by simp only [costK]; omega), Lib.hid (HBR.out.drew)⟩
   case round =>
    clear HBR
    obtain ⟨k, q, hk, hq, rfl, rfl, HQ, HBR⟩ := hrel
    obtain ⟨k0, k1, k2, k3, k4⟩ := HCC.out _ HBR.out
    have q0 : (0 : Int) ≤ (q : Int) := by omega
    have q1 : (q : Int) ≤ 3000000000000 := by omega
    by_cases hlt : k < va.n
    ·
     have g0 : (0 : Int) ≤ (k : Int) := by omega
     have g1 : (k : Int) < (va.n : Int) := by omega
     obtain ⟨g, off2, hA2, _, hgw, hc⟩ := HF1.out.row.mem (by omega)
     have hkl : k < la.length := by have := HF1.out.row.len; omega
     have hx := List.getElem?_eq_getElem hkl
     have HX2 := Lib.hid hx
     have hm2 := HF1.out.each _ (List.getElem_mem hkl)
     obtain ⟨x0, x1, x2, x3⟩ := (hc k _ hx).keep (HBR.out.block g hgw)
     generalize la[k] = x at *
     have m1 : (x.r.n : Int) ≤ 1048576 := by omega
     have m2 : (x.r.m : Int) ≤ 1048576 := by omega
     rw [hA2] at k1
     clear hx hc hA2
     go_wp2_with fail
     go_region
     clear k0 k1 k2 k3 k4 x0 x1 x2 x3
     go_wp2
     go_roundw
     case rel =>
      have hb := costK_le la 1048576 HF1.out.each (k + 1)
      have hs := costK_succ HX2.out
      have hQ := HQ.out
      exact ⟨k + 1, q + 1 + x.r.n + x.r.m, by omega, by omega, by go_num, by go_num, Lib.hid (by omega), Lib.hid HBR.out.drew⟩
     case measure => simp [intOf]; omega
    ·
     have e : k = va.n := by omega
     have hQ : q = n + cost va la := by have := HQ.out; rw [e] at this; unfold cost; omega
     have HQ2 := Lib.hid hQ
     clear hQ HQ e
     have g1 : ¬ (k : Int) < (va.n : Int) := by omega
     by_cases h150 : 150 < q
     ·
      have q2 : (150 : Int) < (q : Int) := by omega
      go_wp2
      go_ret
      exact ⟨true, rfl, (fun h => by cases h), HBR.out⟩
     ·
      have q2 : ¬ (150 : Int) < (q : Int) := by omega
      go_wp2
      go_roundw
      case rel =>
       have hQ := HQ2.out
       have hN := HC.out
       have hS : costA ps (i + 1) = costA ps i + cost va la := costA_succ HX.out
       exact ⟨i + 1, q, by omega, by omega, by go_num, rfl, HBR, Lib.hid (by omega)⟩
      case measure => simp [intOf]; omega
  ·
   have e : i = m := by omega
   have HC2 : Hid (n = costA ps m) := by rw [← e]; exact HC
   clear HC
   have i1 : ¬ (i : Int) < (m : Int) := by omega
   clear e
   go_wp2
   go_ret
   exact ⟨false, rfl, (fun _ => by have := HC2.out; omega), HBR.out⟩
end Go.Proofs.Ytjbhhccklfddaaa
