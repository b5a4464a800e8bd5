/-
  What sums are at a point; sums of the law's own making; the document's Holds.
-/
import Derived.Test.YtkfkjdpkkagjgaaGreatSpc
import Derived.Test.YtkfkjdpkkagjgaaGreatAtR
import Derived.Test.YtkfkjdpkkagjgaaGreatRaw
import Derived.Test.YtkfkjdpkkagjgaaGreatGsK
namespace Go.Proofs.YtkfkjdpkkagjgaaGreat
set_option maxRecDepth 20000
open Go.RowKit
theorem sm_co {N : Nat} (f : Int → Rat) : ∀ (L : List (Int × Rat)) (k : Rat), (∀ y ∈ L, 0 ≤ y.1 ∧ y.1 < (N : Int)) → sm (fun i => co L (i : Int) * f (i : Int)) N + k = atL f L k
 | [], k, _ => by rw [sm_zero' fun i _ => by rw [co, Rat.zero_mul], Rat.zero_add]; rfl
 |
  (v, q) :: L, k, h => by
  obtain ⟨h0, h1⟩ := h (v, q) List.mem_cons_self
  obtain ⟨j, rfl⟩ := Int.eq_ofNat_of_zero_le h0
  replace h1 : (j : Int) < (N : Int) := h1
  rw [atL, ← sm_co f L _ fun y hy => h y (List.mem_cons_of_mem _ hy)]
  have e : sm (fun i => co (((j : Int), q) :: L) (i : Int) * f (i : Int)) N = sm (fun i => (if (j : Int) = (i : Int) then q else 0) * f (i : Int) + co L (i : Int) * f (i : Int)) N := sm_congr fun i _ => by rw [co, Rat.add_mul]
  rw [e, sm_add, sm_single (k := j) (fun i _ hne => by rw [if_neg (by omega), Rat.zero_mul]) (by omega), if_pos rfl]
  rw [Rat.add_comm (q * f (j : Int)), Rat.add_assoc, Rat.add_comm (q * f (j : Int))]
theorem dot_at {N : Nat} {L : List (Int × Rat)} {k : Rat} (f : Int → Rat) (h : ∀ y ∈ L, 0 ≤ y.1 ∧ y.1 < (N : Int)) : dot N (fn N L k) (fun i => f (i : Int)) = atL f L k := by
 rw [← sm_co f L k h]
 unfold dot
 rw [fn_k, sm_congr fun i hi => by rw [fn_lt hi]]
theorem IsS.vars {w : World} {v : Cv} {la : List Tv} {N : Nat} {p : Nat} {L : List (Int × Rat)} (h : IsS w v la (N : Int)) (hr : Rds w p la L) : ∀ y ∈ L, 0 ≤ y.1 ∧ y.1 < (N : Int) := by
 intro y hy
 obtain ⟨i, hi, e⟩ := List.getElem_of_mem hy
 obtain ⟨x, Y, hx, hY, ex, _⟩ := hr.get i (by rw [hr.len]; exact hi)
 rw [List.getElem?_eq_getElem hi, e] at hY
 injection hY with hY
 subst hY
 have := h.2.2 i x (by rw [hr.len]; exact hi) hx
 rw [← ex]; exact ⟨this.1, this.2.1⟩
theorem sz_at {w : World} {p : Nat} {la : List Tv} {L : List (Int × Rat)} {V : List Rat} {k : Rat} (hr : Rds w p la L) (hV : ∀ y ∈ V, Sz y 3) (hk : Sz k 151) : ∀ i, i ≤ la.length → Sz (atL (atV V) (L.take i) k) (151 + costK la i + 4 * i)
 | 0, _ => by rw [List.take_zero]; exact hk.more (by omega)
 |
  i + 1, hi => by
  obtain ⟨x, X, hx, hX, _, hxr⟩ := hr.get i (by omega)
  rw [atL_take _ L k i X hX, costK_succ hx]
  exact ((sz_at hr hV hk i (by omega)).add (hxr.tight.mul (sz_atV hV X.1))).more (by omega)
theorem rank_le {n : Nat} {S R : List (Nat → Rat)} (h : Basis n S R) : R.length ≤ n ∧ R.length ≤ S.length := by
 constructor
 ·
  refine ind_le (B' := fun i j => if i = j then 1 else 0) h.ind fun i hi => ?_
  refine ⟨fun k => ((R[i]?).getD fun _ => 0) k, fun j hj => ?_⟩
  show _ = sm (fun k => ((R[i]?).getD fun _ => 0) k * (if k = j then 1 else 0)) n
  rw [sm_single (k := j) (fun k _ hne => by rw [if_neg hne, Rat.mul_zero]) hj, if_pos rfl, Rat.mul_one]
 ·
  refine ind_le (B' := fun i => (S[i]?).getD fun _ => 0) h.ind fun i hi => ?_
  show Comb n _ _ ((R[i]?).getD fun _ => 0)
  rw [List.getElem?_eq_getElem hi]
  exact sp_comb (h.down _ (List.getElem_mem hi))
theorem sums_len (n : Nat) (vs : List Kin) : (sums n vs).length ≤ vs.length := by
 unfold sums; rw [List.length_map]; exact List.length_filter_le ..
theorem KinOf.below {N s : Nat} {w w' : World} {x : Kin} (h : KinOf N s w x) (hb : Below w.heap.size w w') : KinOf N s w' x := by
 obtain ⟨h1, h2, h3, la, h4, h5, h6⟩ := h
 exact ⟨h1, h2, h3.below hb, la, h4.below hb, h5.below hb, h6.trans (IsS.turn h5 h3 hb)⟩
theorem Fit.below {w w' : World} {v : Cv} {l : List Tv} (h : Fit w v l) (hb : Below w.heap.size w w') : Fit w' v l := ⟨h.row.below hb, h.n, h.kn, h.km, h.cap, h.each⟩
theorem Rt.nrm' {w : World} {lo : Nat} {v : Rv} {r : Rat} (h : Rt w lo v r) : Nrm w v :=
 ⟨_, _, h.num.lower (Nat.zero_le _), h.den.lower (Nat.zero_le _), (IsN_iff _ _ _ h.num.l32 h.den.l32 r (by rw [val_lim, val_lim, h.sign]; exact rn_self r)).2 ⟨h.sign, rfl, rfl⟩⟩
theorem Row.grownLo {w w' : World} {lo n : Nat} {A : Option Addr} {l : List Nat} (h : Row w lo A n l) {B : Option Nat} (hg : w.grownBy w' B) (hB : ∀ k, B = some k → k < lo) : Row w' lo A n l :=
 ⟨h.len, h.l32, fun hn => by
  obtain ⟨b, off, e, h1, h2, hc⟩ := h.mem hn
  exact ⟨b, off, e, h1, Nat.lt_of_lt_of_le h2 hg.size, fun j hj => (World.cell?_of_block (hg.block b h2 (fun e => by have := hB b e.symm; omega))).trans (hc j hj)⟩⟩
theorem Rt.grownLo {w w' : World} {lo : Nat} {r : Rat} {u : Rv} (h : Rt w lo u r) {B : Option Nat} (hg : w.grownBy w' B) (hB : ∀ k, B = some k → k < lo) : Rt w' lo u r :=
 ⟨h.1, h.2, h.3, h.4.grownLo hg hB, h.5, h.6, h.7.grownLo hg hB⟩
structure Rin (w : World) (v : Cv) (l : List Tv) (L : List (Int × Rat)) (k : Rat) : Prop where
 cap : v.n ≤ v.c
 n : v.n ≤ 1000
 row : Tms w 0 v.A v.n l
 rd : Rds w 150 l L
 num : Rw w v.K k 150
 sz : Sz k 151
 cost : Go.Proofs.YtkfkjdpkkagjgaaGreat.cost v l ≤ 150
theorem Raw.rin {w : World} {v : Cv} {l : List Tv} (h : Raw w v l) (hc : cost v l ≤ 150) : ∃ L k, Rin w v l L k := by
 have hl := h.fit.row.len
 obtain ⟨L, hL⟩ := rds_ex (p := 150) l fun x hx => by
  obtain ⟨i, hi, e⟩ := List.getElem_of_mem hx
  have := cost_get (v := v) hl (show l[i]? = some x by rw [List.getElem?_eq_getElem hi, e])
  exact ⟨h.t x hx, by omega, by omega⟩
 obtain ⟨k, hk⟩ := h.k.rw (p := 150) (by unfold cost at hc; omega) (by unfold cost at hc; omega)
 have hn : v.n ≤ 150 := by
  have := costK_len l v.n (by omega)
  unfold cost at hc; omega
 exact ⟨L, k, h.fit.cap, by omega, h.fit.row, hL, hk, hk.tight.more (by unfold cost at hc; omega), hc⟩
theorem Rin.below {w w' : World} {v : Cv} {l : List Tv} {L : List (Int × Rat)} {k : Rat} (h : Rin w v l L k) (hb : Below w.heap.size w w') : Rin w' v l L k :=
 ⟨h.cap, h.n, h.row.below hb, h.rd.below hb, h.num.below hb, h.sz, h.cost⟩
theorem Rin.kin {w : World} {v : Cv} {l : List Tv} {L : List (Int × Rat)} {k : Rat} {N : Nat} {ok : Bool} (h : Rin w v l L k) (ho : ok = true ↔ IsS w v l (N : Int)) : KinOf N 150 w ⟨v, L, k, ok⟩ := ⟨h.cap, h.n, h.num, l, h.row, h.rd, ho⟩
def reK (va : Cv) (z : Rv) : Cv := ⟨va.s, va.A, va.n, va.c, z⟩
theorem Rin.anew {w : World} {va : Cv} {la : List Tv} {L : List (Int × Rat)} {k k2 : Rat} {N lo : Nat} {z : Rv} (h : Rin w va la L k) (hs : IsS w va la (N : Int)) (hz : Rt w lo z k2) (hk : Sz k2 1000) : KinOf N 1000 w ⟨reK va z, L, k2, true⟩ :=
 ⟨h.cap, h.n, hz.rw hk, la, h.row, h.rd.more (by omega), ⟨fun _ => ⟨hs.1, hz.nrm', hs.2.2⟩, fun _ => rfl⟩⟩
structure MRow (N : Nat) (p : Nat → Rat) (w wr : World) (A : Option Addr) (c q : Nat) (us : List Kin) : Prop where
 own : OwnC wr w.heap.size A c q (us.map (·.v))
 below : Below w.heap.size w wr
 kin : ∀ x ∈ us, x.ok = true ∧ dot N (fn N x.L x.k) p = 0 ∧ ∀ w', wr.grownBy w' (A.map (·.block)) → KinOf N 1000 w' x
theorem MRow.step_ {N : Nat} {p : Nat → Rat} {w wr w2 : World} {A : Option Addr} {c q : Nat} {us : List Kin} (h : MRow N p w wr A c q us) (hb : Below wr.heap.size wr w2) : MRow N p w w2 A c q us :=
 ⟨h.own.below hb, h.below.trans (hb.mono h.below.size), fun x hx => ⟨(h.kin x hx).1, (h.kin x hx).2.1, fun w' hg => (h.kin x hx).2.2 w' ((grown_row hb _).trans hg)⟩⟩
theorem MRow.kns {N : Nat} {p : Nat → Rat} {w wr : World} {A : Option Addr} {c q : Nat} {us : List Kin} (h : MRow N p w wr A c q us) : Kns N 1000 wr A q us := ⟨h.own.kons, fun x hx => (h.kin x hx).2.2 wr (World.grownBy.refl _ _)⟩
theorem MRow.sat {N : Nat} {p : Nat → Rat} {w wr : World} {A : Option Addr} {c q : Nat} {us : List Kin} (h : MRow N p w wr A c q us) : Sat N (sums N us) p := by
 intro f hf
 obtain ⟨x, hx, rfl⟩ := List.mem_map.1 hf
 exact (h.kin x (List.mem_filter.1 hx).1).2.1
theorem MRow.len {N : Nat} {p : Nat → Rat} {w wr : World} {A : Option Addr} {c q : Nat} {us : List Kin} (h : MRow N p w wr A c q us) : us.length = q := by have := h.own.len; rwa [List.length_map] at this
theorem MRow.more {N : Nat} {p : Nat → Rat} {w wr V w3 : World} {A A3 : Option Addr} {c c3 q : Nat} {us : List Kin} {x : Kin} (h : MRow N p w wr A c q us) (hV : Below wr.heap.size wr V)
  (hx : x.ok = true ∧ dot N (fn N x.L x.k) p = 0 ∧ ∀ w', V.grownBy w' (A.map (·.block)) → KinOf N 1000 w' x)
  (hown : OwnC w3 w.heap.size A3 c3 (q + 1) (us.map (·.v) ++ [x.v])) (hg : V.grownBy w3 (A.map (·.block))) (hw : A3.map (·.block) = A.map (·.block) ∨ A3.map (·.block) = some V.heap.size) : MRow N p w w3 A3 c3 (q + 1) (us ++ [x]) := by
 have hVM := h.step_ hV
 have mv : ∀ y : Kin, (∀ w', V.grownBy w' (A.map (·.block)) → KinOf N 1000 w' y) → ∀ w', w3.grownBy w' (A3.map (·.block)) → KinOf N 1000 w' y := fun y hy w' h2 => by
  rcases hw with e | e
  · rw [e] at h2; exact hy _ (hg.trans h2)
  ·
   rw [e] at h2
   refine hy _ ⟨h2.os.trans hg.os, h2.tape.trans hg.tape, h2.output.trans hg.output, Nat.le_trans hg.size h2.size, fun k hk hne => ?_⟩
   have hs := hg.size
   exact (h2.block k (by omega) (by simp; omega)).trans (hg.block k hk hne)
 refine ⟨by rw [List.map_append]; exact hown, far_grown hVM.below hVM.own hg, fun y hy => ?_⟩
 rcases List.mem_append.1 hy with hy | hy
 · exact ⟨(hVM.kin y hy).1, (hVM.kin y hy).2.1, mv y (hVM.kin y hy).2.2⟩
 ·
  rw [List.mem_singleton.1 hy]
  exact ⟨hx.1, hx.2.1, mv x hx.2.2⟩
set_option maxHeartbeats 3200000 in
theorem rHolds_c (va : Cv) (A : Option Addr) (n c : Nat) (la : List Tv) (lv : List Rv) (L : List (Int × Rat)) (V : List Rat) (k : Rat) (w : World) (h : Rin w va la L k) (hV : Nums w A n lv) (hR : RdV w 3 lv V) (hn : n ≤ 1000) :
  Calls Tryz.prog 12 #[.agg #[.int .i64 va.s, .slice va.A va.n va.c, .bool va.K.s, .slice va.K.A va.K.n va.K.c, .slice va.K.B va.K.m va.K.d], .slice A n c] w fun e w' => e = .returned (.bool (decide (atL (atV V) L k = 0))) ∧ Below w.heap.size w w' := by
 have ka := C5.new w (.int .i64 va.s) (.slice va.A va.n va.c) (.bool va.K.s) (.slice va.K.A va.K.n va.K.c) (.slice va.K.B va.K.m va.K.d)
 have hB : Below w.heap.size w (w.alloc (.cells #[.int .i64 va.s, .slice va.A va.n va.c, .bool va.K.s, .slice va.K.A va.K.n va.K.c, .slice va.K.B va.K.m va.K.d] 28)) := (Below.refl _ _).alloc (Nat.le_refl _) _
 have HB := Lib.hid hB
 have H := Lib.hid (And.intro h (And.intro hV hR))
 obtain ⟨a0, a1, a2, a3, a4⟩ := ka.facts
 clear ka hB h hV hR
 go_enter Tryz.func12, Tryz.ntmps12
 go_wp2_with fail
 clear a0 a1 a2 a3 a4
 generalize w.alloc (.cells #[.int .i64 va.s, .slice va.A va.n va.c, .bool va.K.s, .slice va.K.A va.K.n va.K.c, .slice va.K.B va.K.m va.K.d] 28) = W at *
 have h1 := H.out.1.below HB.out
 refine (rAtK_c va A n c la lv L V k W h1.cost h1.row h1.rd h1.num (H.out.2.1.below HB.out) (RdV.below HB.out H.out.2.2) hn).mono ?_
 rintro e w1 ⟨z, rfl, hz, hsz, hb⟩
 have H1 : Hid (Below w.heap.size w w1) := HB.out.trans (hb.mono HB.out.size)
 have HZ := Lib.hid (And.intro hz hsz)
 clear hz hsz hb h1
 go_wp2_with fail
 refine (rZero_c z _ w1 ((HZ.out.1.rw HZ.out.2).more (by omega))).mono ?_
 rintro e w2 ⟨rfl, hb⟩
 have H2 : Hid (Below w.heap.size w w2) := H1.out.trans (hb.mono H1.out.size)
 clear hb
 go_wp2
 go_ret
 exact ⟨rfl, H2.out⟩
end Go.Proofs.YtkfkjdpkkagjgaaGreat
