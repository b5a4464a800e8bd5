/-
  Chapter 12's law: what is known.
-/
import Derived.Test.YtgffkaconhonlaaGreatQHrH
import Derived.Test.YtgffkaconhonlaaGreatQMRf
import Derived.Deep.Cut
import Derived.Test.YtgffkaconhonlaaGreatQRgn
namespace Go.Proofs.YtgffkaconhonlaaGreat
set_option maxRecDepth 20000
open Go.RowKit
theorem dot_one {N v : Nat} (hv : v < N) (k : Rat) (y : Nat → Rat) : dot N (fn N [((v : Int), ((1 : Int) : Rat))] k) y = k + ((1 : Int) : Rat) * y v := by
 have h := dot_at (N := N) (L := [((v : Int), ((1 : Int) : Rat))]) (k := k) (fun i => y i.toNat) (fun x hx => by rw [List.mem_singleton.1 hx]; exact ⟨by show (0 : Int) ≤ (v : Int); omega, by show (v : Int) < (N : Int); omega⟩)
 exact h
theorem i1_mul (x : Rat) : ((1 : Int) : Rat) * x = x := Rat.one_mul x
theorem nums_one {w : World} {g : Nat} {z : Rv} (h : w.heap[g]? = some (.cells #[.bool z.s, .slice z.A z.n z.c, .slice z.B z.m z.d] 26 (0, 0))) : Nums w (some ⟨g, 0, none⟩) 1 [z] :=
 ⟨rfl, fun _ => ⟨g, 0, rfl, (Array.getElem?_eq_some_iff.1 h).1, fun i r hr => by
  have hi : i < 1 := (List.getElem?_eq_some_iff.1 hr).1
  have : i = 0 := by omega
  subst this
  injection hr with hr; subst hr
  constructor <;> simp [World.cell?, h]⟩⟩
def kn5 (sv : Cv) : Kin := ⟨sv, [(((0 : Nat) : Int), ((1 : Int) : Rat))], -((5 : Int) : Rat), true⟩
theorem pt_one (q : Rat) : ptOf [q] 0 = q := rfl
theorem kn_first {sv : Cv} (hs : sv.s = 3) : BeatAns 1 (ptOf [((1 : Int) : Rat)]) (allS 1 [kn5 sv] [((1 : Int) : Rat)]) 0 := by
 refine .inr ⟨0, smOf 1 (kn5 sv), rfl, rfl, ⟨rfl, ?_, fun _ => ((5 : Int) : Rat), ?_, fun d hd hdo hds hdp => ?_⟩, fun j d hj => absurd hj (Nat.not_lt_zero _)⟩
 ·
  show dot 1 (fn 1 [(((0 : Nat) : Int), ((1 : Int) : Rat))] (-((5 : Int) : Rat))) _ ≠ 0
  rw [dot_one (by omega), i1_mul, pt_one]
  decide +kernel
 ·
  show dot 1 (fn 1 [(((0 : Nat) : Int), ((1 : Int) : Rat))] (-((5 : Int) : Rat))) _ = 0
  rw [dot_one (by omega), i1_mul]
  decide +kernel
 ·
  have hs' : (smOf 1 (kn5 sv)).1 = 3 := hs
  rcases List.mem_append.1 hd with hd | hd
  ·
   rw [List.map_singleton, List.mem_singleton] at hd
   subst hd
   exact absurd hdp (by
    show dot 1 (fn 1 [(((0 : Nat) : Int), ((1 : Int) : Rat))] (-((5 : Int) : Rat))) _ ≠ 0
    rw [dot_one (by omega), i1_mul, pt_one]
    decide +kernel)
  ·
   obtain ⟨v, _, rfl⟩ := List.mem_map.1 hd
   have h4 : (4 : Int) ≤ (smOf 1 (kn5 sv)).1 := hds
   rw [hs'] at h4
   omega
theorem kn_second {sv : Cv} (hs : sv.s = 3) : BeatAns 1 (ptOf [((5 : Int) : Rat)]) (allS 1 [kn5 sv] [((1 : Int) : Rat)]) (-1) := by
 have h0 : dot 1 (fn 1 [(((0 : Nat) : Int), ((1 : Int) : Rat))] (-((5 : Int) : Rat))) (ptOf [((5 : Int) : Rat)]) = 0 := by
  rw [dot_one (by omega), i1_mul, pt_one]
  decide +kernel
 refine .inl ⟨rfl, fun c hc hco => ?_⟩
 rcases List.mem_append.1 hc with h | h
 ·
  rw [List.map_singleton, List.mem_singleton] at h
  subst h
  exact hco.2.1 h0
 ·
  obtain ⟨v, hv, rfl⟩ := List.mem_map.1 h
  have hv0 : v = 0 := by have := List.mem_range.1 hv; omega
  subst hv0
  obtain ⟨_, _, y, h1, h2⟩ := hco
  have h3 := h2 (smOf 1 (kn5 sv)) (List.mem_append_left _ (List.mem_map.2 ⟨_, List.mem_singleton.2 rfl, rfl⟩)) rfl (by show sv.s ≤ 4; omega) h0
  replace h3 : dot 1 (fn 1 [(((0 : Nat) : Int), ((1 : Int) : Rat))] (-((5 : Int) : Rat))) y = 0 := h3
  replace h1 : dot 1 (fn 1 [(((0 : Nat) : Int), ((1 : Int) : Rat))] (-((1 : Int) : Rat))) y = 0 := h1
  rw [dot_one (by omega), i1_mul] at h1 h3
  have e : ((5 : Int) : Rat) = ((1 : Int) : Rat) := by grind
  exact absurd e (by decide +kernel)
theorem sz_five : Sz ((5 : Int) : Rat) 4 := by
 have := Sz.lit (x := 5) (y := 1) (s := false) (by omega) (by omega)
 have e : rn false 5 1 = ((5 : Int) : Rat) := by decide +kernel
 rw [e] at this
 exact this.more (by omega)
theorem room41 : RoomD 4 1 1 := by unfold RoomD; omega
set_option maxHeartbeats 12800000 in
theorem known12_c (w : World) : Calls Tryz.prog 37 #[] w fun e w' => e = .returned (.bool true) ∧ Below w.heap.size w w' := by
 go_enter Tryz.func37, Tryz.ntmps37
 go_wp2_with fail
 refine (rInt_c 1 _ (by omega)).mono ?_
 rintro e w1 ⟨z, rfl, hz, hb⟩
 have HZ := Lib.hid (And.intro hz hb)
 clear hz hb
 go_wp2_with fail
 have HG : Hid ((w1.alloc (.cells #[.int .i64 0, .bool z.s, .slice z.A z.n z.c, .slice z.B z.m z.d] 47)).heap[w1.heap.size]? = some (.cells #[.int .i64 0, .bool z.s, .slice z.A z.n z.c, .slice z.B z.m z.d] 47 (0, 0)) ∧ Below w.heap.size w (w1.alloc (.cells #[.int .i64 0, .bool z.s, .slice z.A z.n z.c, .slice z.B z.m z.d] 47)) ∧ Rt (w1.alloc (.cells #[.int .i64 0, .bool z.s, .slice z.A z.n z.c, .slice z.B z.m z.d] 47)) w.heap.size z ((1 : Int) : Rat)) := ⟨heap_alloc_new w1 _, HZ.out.2.alloc HZ.out.2.size _, HZ.out.1.below ((Below.refl _ _).alloc (Nat.le_refl _) _)⟩
 have HL1 : Hid (w.heap.size ≤ w1.heap.size) := HZ.out.2.size
 clear HZ
 generalize w1.alloc (.cells #[.int .i64 0, .bool z.s, .slice z.A z.n z.c, .slice z.B z.m z.d] 47) = W1 at *
 obtain ⟨G, hG⟩ : ∃ G, G = w1.heap.size := ⟨_, rfl⟩
 rw [← hG] at HG HL1
 rw [← hG]
 clear hG
 refine (rInt_c (-5) _ (by omega)).mono ?_
 rintro e w2 ⟨zk, rfl, hz, hb⟩
 have HO2 : Hid (One w2 w.heap.size 3 0 ((5 : Int) : Rat) ⟨3, some ⟨G, 0, none⟩, 1, 1, zk⟩ ∧ Below w.heap.size w w2) :=
  ⟨⟨
   ⟨G, z, rfl, rfl, rfl, rfl, HL1.out, (hb.block G (Array.getElem?_eq_some_iff.1 HG.out.1).1).trans HG.out.1, HG.out.2.2.below hb⟩, by
   have e5 : ((-5 : Int) : Rat) = -((5 : Int) : Rat) := by decide +kernel
   rw [← e5]
   exact hz.lower HG.out.2.1.size⟩, HG.out.2.1.trans (hb.mono HG.out.2.1.size)⟩
 clear hz hb HG HL1
 go_wp2_with fail
 have hbx : Below w2.heap.size w2 (w2.alloc (.cells #[.int .i64 3, .slice (some ⟨G, 0, none⟩) 1 1, .bool zk.s, .slice zk.A zk.n zk.c, .slice zk.B zk.m zk.d] 28)) := (Below.refl _ _).alloc (Nat.le_refl _) _
 have HC : Hid (C5 (w2.alloc (.cells #[.int .i64 3, .slice (some ⟨G, 0, none⟩) 1 1, .bool zk.s, .slice zk.A zk.n zk.c, .slice zk.B zk.m zk.d] 28)) w2.heap.size (.int .i64 3) (.slice (some ⟨G, 0, none⟩) 1 1) (.bool zk.s) (.slice zk.A zk.n zk.c) (.slice zk.B zk.m zk.d) ∧ One (w2.alloc (.cells #[.int .i64 3, .slice (some ⟨G, 0, none⟩) 1 1, .bool zk.s, .slice zk.A zk.n zk.c, .slice zk.B zk.m zk.d] 28)) w.heap.size 3 0 ((5 : Int) : Rat) ⟨3, some ⟨G, 0, none⟩, 1, 1, zk⟩ ∧ Below w.heap.size w (w2.alloc (.cells #[.int .i64 3, .slice (some ⟨G, 0, none⟩) 1 1, .bool zk.s, .slice zk.A zk.n zk.c, .slice zk.B zk.m zk.d] 28))) := ⟨C5.new w2 _ _ _ _ _, HO2.out.1.below hbx, HO2.out.2.trans (hbx.mono HO2.out.2.size)⟩
 clear hbx HO2
 generalize w2.alloc (.cells #[.int .i64 3, .slice (some ⟨G, 0, none⟩) 1 1, .bool zk.s, .slice zk.A zk.n zk.c, .slice zk.B zk.m zk.d] 28) = W2 at *
 generalize w2.heap.size = Y at *
 refine (rInt_c 1 _ (by omega)).mono ?_
 rintro e w3 ⟨z1, rfl, hz, hb⟩
 have H3 : Hid (Rt w3 0 z1 ((1 : Int) : Rat) ∧ Below W2.heap.size W2 w3) := ⟨hz.lower (Nat.zero_le _), hb⟩
 clear hz hb
 go_upto_region 3 with fail
 have hbx : Below w3.heap.size w3 (w3.alloc (.cells #[.bool z1.s, .slice z1.A z1.n z1.c, .slice z1.B z1.m z1.d] 26)) := (Below.refl _ _).alloc (Nat.le_refl _) _
 have HE : Hid (Nums (w3.alloc (.cells #[.bool z1.s, .slice z1.A z1.n z1.c, .slice z1.B z1.m z1.d] 26)) (some ⟨w3.heap.size, 0, none⟩) 1 [z1] ∧ RdV (w3.alloc (.cells #[.bool z1.s, .slice z1.A z1.n z1.c, .slice z1.B z1.m z1.d] 26)) 4 [z1] [((1 : Int) : Rat)] ∧ Below W2.heap.size W2 (w3.alloc (.cells #[.bool z1.s, .slice z1.A z1.n z1.c, .slice z1.B z1.m z1.d] 26))) :=
  ⟨nums_one (heap_alloc_new w3 _), ⟨((H3.out.1.below hbx).rw sz_one').more (by omega), trivial⟩, H3.out.2.trans (hbx.mono H3.out.2.size)⟩
 clear hbx H3
 generalize w3.alloc (.cells #[.bool z1.s, .slice z1.A z1.n z1.c, .slice z1.B z1.m z1.d] 26) = W at *
 generalize w3.heap.size = g1 at *
 have HW : Hid (C5 W Y (.int .i64 3) (.slice (some ⟨G, 0, none⟩) 1 1) (.bool zk.s) (.slice zk.A zk.n zk.c) (.slice zk.B zk.m zk.d) ∧ One W w.heap.size 3 0 ((5 : Int) : Rat) ⟨3, some ⟨G, 0, none⟩, 1, 1, zk⟩ ∧ Below w.heap.size w W) := ⟨HC.out.1.below HE.out.2.2, HC.out.2.1.below HE.out.2.2, HC.out.2.2.trans (HE.out.2.2.mono HC.out.2.2.size)⟩
 have HV1 : Hid (Nums W (some ⟨g1, 0, none⟩) 1 [z1] ∧ RdV W 4 [z1] [((1 : Int) : Rat)]) := ⟨HE.out.1, HE.out.2.1⟩
 clear HC HE
 obtain ⟨sv, hsv⟩ : ∃ sv : Cv, sv = ⟨3, some ⟨G, 0, none⟩, 1, 1, zk⟩ := ⟨_, rfl⟩
 have HSV := Lib.hid hsv
 have HX : Hid (∀ w', Below W.heap.size W w' → Hin 1 4 w' (kn5 sv)) := fun w' h => by
  rw [HSV.out]
  exact (HW.out.2.1.below h).hin (by omega) (by omega) (by have := sz_five; exact this.neg) (by omega)
 have HAL : Hid (∀ w', Below W.heap.size W w' → w'.cell? ⟨Y, 0, none⟩ = some (.int .i64 3) ∧ w'.cell? ⟨Y, 1, none⟩ = some (.slice (some ⟨G, 0, none⟩) 1 1) ∧ w'.cell? ⟨Y, 2, none⟩ = some (.bool zk.s) ∧ w'.cell? ⟨Y, 3, none⟩ = some (.slice zk.A zk.n zk.c) ∧ w'.cell? ⟨Y, 4, none⟩ = some (.slice zk.B zk.m zk.d)) := fun w' h => (HW.out.1.below h).facts
 clear hsv
 obtain ⟨k0, k1, k2, k3, k4⟩ := HAL.out _ (Below.refl _ _)
 refine wp_region_held_drew (S := fun w' => w'.cell? ⟨Y, 0, none⟩ = some (.int .i64 3) ∧ w'.cell? ⟨Y, 1, none⟩ = some (.slice (some ⟨G, 0, none⟩) 1 1) ∧ w'.cell? ⟨Y, 2, none⟩ = some (.bool zk.s) ∧ w'.cell? ⟨Y, 3, none⟩ = some (.slice zk.A zk.n zk.c) ∧ w'.cell? ⟨Y, 4, none⟩ = some (.slice zk.B zk.m zk.d)) (by kernel_rfl) ?_ (fun hHeld => ?_)
 ·
  (try dsimp only)
  go_keep
 refine tk (i := 0) (h := ?_)
 try simp only [zR]
 refine tk (i := 2) (h := ?_)
 try simp only [zR]
 refine tk (i := 3) (h := ?_)
 try simp only [zR]
 refine tr [1] ?_
 refine tc (h := fun K hK => ?_) (hs := tn)
 try go_simp
 try go_wp2_with fail
 refine hK.out _ _ ?_ (fun hHeld => ?_)
 · (try dsimp only); go_keep
 clear hK K
 try simp only [zR]
 have P1 : Hid (Below W.heap.size W (W.alloc (.cells #[.int .i64 3, .slice (some ⟨G, 0, none⟩) 1 1, .bool zk.s, .slice zk.A zk.n zk.c, .slice zk.B zk.m zk.d] 28)).drew) := (Below.refl W.heap.size W).trans ((((Below.refl _ _).alloc (Nat.le_refl _) _).drew).mono (Below.refl W.heap.size W).size)
 have G1 : Hid (C5 (W.alloc (.cells #[.int .i64 3, .slice (some ⟨G, 0, none⟩) 1 1, .bool zk.s, .slice zk.A zk.n zk.c, .slice zk.B zk.m zk.d] 28)).drew W.heap.size (.int .i64 3) (.slice (some ⟨G, 0, none⟩) 1 1) (.bool zk.s) (.slice zk.A zk.n zk.c) (.slice zk.B zk.m zk.d)) := C5.new W (.int .i64 3) (.slice (some ⟨G, 0, none⟩) 1 1) (.bool zk.s) (.slice zk.A zk.n zk.c) (.slice zk.B zk.m zk.d)
 have D1 : Hid (Below W.heap.size W (W.alloc (.cells #[.int .i64 3, .slice (some ⟨G, 0, none⟩) 1 1, .bool zk.s, .slice zk.A zk.n zk.c, .slice zk.B zk.m zk.d] 28)).drew) := ((Below.refl _ _).alloc (Nat.le_refl _) _).drew
 generalize (W.alloc (.cells #[.int .i64 3, .slice (some ⟨G, 0, none⟩) 1 1, .bool zk.s, .slice zk.A zk.n zk.c, .slice zk.B zk.m zk.d] 28)).drew = v1 at *
 clear k0 k1 k2 k3 k4
 obtain ⟨k0, k1, k2, k3, k4⟩ := HAL.out _ P1.out
 refine tr [4] ?_
 refine tc (h := fun K hK => ?_) (hs := tn)
 try go_simp
 go_at_call 35
 refine (Beaten_c 4 1 1 (some ⟨W.heap.size, 0, none⟩) (some ⟨g1, 0, none⟩) (some ⟨g1, 0, none⟩) 1 1 1 1 1 [kn5 sv] [z1] [z1] [((1 : Int) : Rat)] [((1 : Int) : Rat)] _ ⟨by rw [HSV.out]; exact kons5 G1.out, fun x hx => by rw [List.mem_singleton.1 hx]; exact HX.out _ P1.out⟩ (by omega) (by omega) (by omega) (by omega) (HV1.out.1.below P1.out) (RdV.below P1.out HV1.out.2) (by omega) ⟨HV1.out.1.below P1.out, RdV.below P1.out HV1.out.2, by omega⟩ room41 (fun x hx _ => by rw [List.mem_singleton.1 hx]; exact Nat.le_refl 1) (by omega)).mono ?_
 rintro e v4 ⟨r, rfl, hr, hb⟩
 obtain rfl : r = 0 := hr.same (kn_first (by rw [HSV.out]))
 have P4 : Hid (Below W.heap.size W v4) := P1.out.trans (hb.mono P1.out.size)
 clear hr hb
 clear k0 k1 k2 k3 k4
 obtain ⟨k0, k1, k2, k3, k4⟩ := HAL.out _ P4.out
 try go_wp2_with fail
 refine hK.out _ _ ?_ (fun hHeld => ?_)
 · (try dsimp only); go_keep
 clear hK K
 try simp only [zR]
 refine tk (i := 5) (h := ?_)
 try simp only [zR]
 refine tk (i := 6) (h := ?_)
 try simp only [zR]
 refine tk (i := 7) (h := ?_)
 try simp only [zR]
 refine tk (i := 9) (h := ?_)
 try simp only [zR]
 refine tr [8, 10] ?_
 refine tc (h := fun K hK => ?_) (hs := tc (h := fun K hK => ?_) (hs := tn))
 ·
  skip
  try go_simp
  try go_wp2_with fail
  refine hK.out _ _ ?_ (fun hHeld => ?_)
  · (try dsimp only); go_keep
  clear hK K
  try simp only [zR]
  have P8 : Hid (Below W.heap.size W (v4.alloc (.cells #[.int .i64 3, .slice (some ⟨G, 0, none⟩) 1 1, .bool zk.s, .slice zk.A zk.n zk.c, .slice zk.B zk.m zk.d] 28))) := P4.out.trans ((((Below.refl _ _).alloc (Nat.le_refl _) _)).mono P4.out.size)
  have G8 : Hid (C5 (v4.alloc (.cells #[.int .i64 3, .slice (some ⟨G, 0, none⟩) 1 1, .bool zk.s, .slice zk.A zk.n zk.c, .slice zk.B zk.m zk.d] 28)) v4.heap.size (.int .i64 3) (.slice (some ⟨G, 0, none⟩) 1 1) (.bool zk.s) (.slice zk.A zk.n zk.c) (.slice zk.B zk.m zk.d)) := C5.new v4 (.int .i64 3) (.slice (some ⟨G, 0, none⟩) 1 1) (.bool zk.s) (.slice zk.A zk.n zk.c) (.slice zk.B zk.m zk.d)
  have D8 : Hid (Below v4.heap.size v4 (v4.alloc (.cells #[.int .i64 3, .slice (some ⟨G, 0, none⟩) 1 1, .bool zk.s, .slice zk.A zk.n zk.c, .slice zk.B zk.m zk.d] 28))) := ((Below.refl _ _).alloc (Nat.le_refl _) _)
  generalize (v4.alloc (.cells #[.int .i64 3, .slice (some ⟨G, 0, none⟩) 1 1, .bool zk.s, .slice zk.A zk.n zk.c, .slice zk.B zk.m zk.d] 28)) = v8 at *
  clear k0 k1 k2 k3 k4
  obtain ⟨k0, k1, k2, k3, k4⟩ := HAL.out _ P8.out
  refine tr [10] ?_
  refine tc (h := fun K hK => ?_) (hs := tn)
  try go_simp
  go_at_call 28
  refine (rInt_c 5 _ (by omega)).mono ?_
  rintro e v10 ⟨z5, rfl, hz, hb⟩
  have P10 : Hid (Below W.heap.size W v10) := P8.out.trans (hb.mono P8.out.size)
  have Z10 : Hid (Rt v10 0 z5 ((5 : Int) : Rat)) := hz.lower (Nat.zero_le _)
  replace G8 : Hid (C5 v10 v4.heap.size (.int .i64 3) (.slice (some ⟨G, 0, none⟩) 1 1) (.bool zk.s) (.slice zk.A zk.n zk.c) (.slice zk.B zk.m zk.d)) := G8.out.below hb
  clear hz hb
  clear k0 k1 k2 k3 k4
  obtain ⟨k0, k1, k2, k3, k4⟩ := HAL.out _ P10.out
  try go_wp2_with fail
  refine hK.out _ _ ?_ (fun hHeld => ?_)
  · (try dsimp only); go_keep
  clear hK K
  try simp only [zR]
  refine tr [11] ?_
  refine tc (h := fun K hK => ?_) (hs := tn)
  try go_simp
  try go_wp2_with fail
  refine hK.out _ _ ?_ (fun hHeld => ?_)
  · (try dsimp only); go_keep
  clear hK K
  try simp only [zR]
  have P11 : Hid (Below W.heap.size W (v10.alloc (.cells #[.bool z5.s, .slice z5.A z5.n z5.c, .slice z5.B z5.m z5.d] 26))) := P10.out.trans (((Below.refl _ _).alloc (Nat.le_refl _) _).mono P10.out.size)
  have D11 : Hid (Below v10.heap.size v10 (v10.alloc (.cells #[.bool z5.s, .slice z5.A z5.n z5.c, .slice z5.B z5.m z5.d] 26))) := (Below.refl _ _).alloc (Nat.le_refl _) _
  have N11 : Hid (Nums (v10.alloc (.cells #[.bool z5.s, .slice z5.A z5.n z5.c, .slice z5.B z5.m z5.d] 26)) (some ⟨v10.heap.size, 0, none⟩) 1 [z5]) := nums_one (heap_alloc_new v10 _)
  replace Z10 : Hid (Rt (v10.alloc (.cells #[.bool z5.s, .slice z5.A z5.n z5.c, .slice z5.B z5.m z5.d] 26)) 0 z5 ((5 : Int) : Rat)) := Z10.out.below D11.out
  replace G8 : Hid (C5 (v10.alloc (.cells #[.bool z5.s, .slice z5.A z5.n z5.c, .slice z5.B z5.m z5.d] 26)) v4.heap.size (.int .i64 3) (.slice (some ⟨G, 0, none⟩) 1 1) (.bool zk.s) (.slice zk.A zk.n zk.c) (.slice zk.B zk.m zk.d)) := G8.out.below D11.out
  generalize (v10.alloc (.cells #[.bool z5.s, .slice z5.A z5.n z5.c, .slice z5.B z5.m z5.d] 26)) = v11 at *
  obtain ⟨g5, hg5⟩ : ∃ g5, g5 = v10.heap.size := ⟨_, rfl⟩
  rw [← hg5] at N11
  rw [← hg5]
  clear hg5
  clear k0 k1 k2 k3 k4
  obtain ⟨k0, k1, k2, k3, k4⟩ := HAL.out _ P11.out
  refine tr [12] ?_
  refine tc (h := fun K hK => ?_) (hs := tn)
  try go_simp
  go_at_call 35
  have HRV : Hid (RdV v11 4 [z5] [((5 : Int) : Rat)]) := ⟨Z10.out.rw sz_five, trivial⟩
  refine (Beaten_c 4 1 1 (some ⟨v4.heap.size, 0, none⟩) (some ⟨g1, 0, none⟩) (some ⟨g5, 0, none⟩) 1 1 1 1 1 [kn5 sv] [z1] [z5] [((1 : Int) : Rat)] [((5 : Int) : Rat)] _ ⟨by rw [HSV.out]; exact kons5 G8.out, fun x hx => by rw [List.mem_singleton.1 hx]; exact HX.out _ P11.out⟩ (by omega) (by omega) (by omega) (by omega) (HV1.out.1.below P11.out) (RdV.below P11.out HV1.out.2) (by omega) ⟨N11.out, HRV.out, by omega⟩ room41 (fun x hx _ => by rw [List.mem_singleton.1 hx]; exact Nat.le_refl 1) (by omega)).mono ?_
  rintro e v12 ⟨r, rfl, hr, hb⟩
  obtain rfl : r = -1 := hr.same (kn_second (by rw [HSV.out]))
  have P12 : Hid (Below W.heap.size W v12) := P11.out.trans (hb.mono P11.out.size)
  clear hr hb HRV
  clear k0 k1 k2 k3 k4
  obtain ⟨k0, k1, k2, k3, k4⟩ := HAL.out _ P12.out
  try go_wp2_with fail
  refine hK.out _ _ ?_ (fun hHeld => ?_)
  · (try dsimp only); go_keep
  clear hK K
  try simp only [zR]
  refine tk (i := 13) (h := ?_)
  try simp only [zR]
  refine tk (i := 14) (h := ?_)
  try simp only [zR]
  refine tk (i := 15) (h := ?_)
  try simp only [Act.put, List.setIfInBounds_toArray, List.set_cons_zero]
  refine wpAnyH_done (by kernel_rfl) ?_ _
  clear k0 k1 k2 k3 k4
  go_wp2
  go_ret
  exact ⟨rfl, HW.out.2.2.trans (P12.out.mono HW.out.2.2.size)⟩
 ·
  skip
  try go_simp
  go_at_call 28
  refine (rInt_c 5 _ (by omega)).mono ?_
  rintro e v10 ⟨z5, rfl, hz, hb⟩
  have P10 : Hid (Below W.heap.size W v10) := P4.out.trans (hb.mono P4.out.size)
  have Z10 : Hid (Rt v10 0 z5 ((5 : Int) : Rat)) := hz.lower (Nat.zero_le _)
  clear hz hb
  clear k0 k1 k2 k3 k4
  obtain ⟨k0, k1, k2, k3, k4⟩ := HAL.out _ P10.out
  try go_wp2_with fail
  refine hK.out _ _ ?_ (fun hHeld => ?_)
  · (try dsimp only); go_keep
  clear hK K
  try simp only [zR]
  refine tr [8, 11] ?_
  refine tc (h := fun K hK => ?_) (hs := tc (h := fun K hK => ?_) (hs := tn))
  ·
   skip
   try go_simp
   try go_wp2_with fail
   refine hK.out _ _ ?_ (fun hHeld => ?_)
   · (try dsimp only); go_keep
   clear hK K
   try simp only [zR]
   have P8 : Hid (Below W.heap.size W (v10.alloc (.cells #[.int .i64 3, .slice (some ⟨G, 0, none⟩) 1 1, .bool zk.s, .slice zk.A zk.n zk.c, .slice zk.B zk.m zk.d] 28))) := P10.out.trans ((((Below.refl _ _).alloc (Nat.le_refl _) _)).mono P10.out.size)
   have G8 : Hid (C5 (v10.alloc (.cells #[.int .i64 3, .slice (some ⟨G, 0, none⟩) 1 1, .bool zk.s, .slice zk.A zk.n zk.c, .slice zk.B zk.m zk.d] 28)) v10.heap.size (.int .i64 3) (.slice (some ⟨G, 0, none⟩) 1 1) (.bool zk.s) (.slice zk.A zk.n zk.c) (.slice zk.B zk.m zk.d)) := C5.new v10 (.int .i64 3) (.slice (some ⟨G, 0, none⟩) 1 1) (.bool zk.s) (.slice zk.A zk.n zk.c) (.slice zk.B zk.m zk.d)
   have D8 : Hid (Below v10.heap.size v10 (v10.alloc (.cells #[.int .i64 3, .slice (some ⟨G, 0, none⟩) 1 1, .bool zk.s, .slice zk.A zk.n zk.c, .slice zk.B zk.m zk.d] 28))) := ((Below.refl _ _).alloc (Nat.le_refl _) _)
   replace Z10 : Hid (Rt (v10.alloc (.cells #[.int .i64 3, .slice (some ⟨G, 0, none⟩) 1 1, .bool zk.s, .slice zk.A zk.n zk.c, .slice zk.B zk.m zk.d] 28)) 0 z5 ((5 : Int) : Rat)) := Z10.out.below D8.out
   generalize (v10.alloc (.cells #[.int .i64 3, .slice (some ⟨G, 0, none⟩) 1 1, .bool zk.s, .slice zk.A zk.n zk.c, .slice zk.B zk.m zk.d] 28)) = v8 at *
   clear k0 k1 k2 k3 k4
   obtain ⟨k0, k1, k2, k3, k4⟩ := HAL.out _ P8.out
   refine tr [11] ?_
   refine tc (h := fun K hK => ?_) (hs := tn)
   try go_simp
   try go_wp2_with fail
   refine hK.out _ _ ?_ (fun hHeld => ?_)
   · (try dsimp only); go_keep
   clear hK K
   try simp only [zR]
   have P11 : Hid (Below W.heap.size W (v8.alloc (.cells #[.bool z5.s, .slice z5.A z5.n z5.c, .slice z5.B z5.m z5.d] 26))) := P8.out.trans (((Below.refl _ _).alloc (Nat.le_refl _) _).mono P8.out.size)
   have D11 : Hid (Below v8.heap.size v8 (v8.alloc (.cells #[.bool z5.s, .slice z5.A z5.n z5.c, .slice z5.B z5.m z5.d] 26))) := (Below.refl _ _).alloc (Nat.le_refl _) _
   have N11 : Hid (Nums (v8.alloc (.cells #[.bool z5.s, .slice z5.A z5.n z5.c, .slice z5.B z5.m z5.d] 26)) (some ⟨v8.heap.size, 0, none⟩) 1 [z5]) := nums_one (heap_alloc_new v8 _)
   replace Z10 : Hid (Rt (v8.alloc (.cells #[.bool z5.s, .slice z5.A z5.n z5.c, .slice z5.B z5.m z5.d] 26)) 0 z5 ((5 : Int) : Rat)) := Z10.out.below D11.out
   replace G8 : Hid (C5 (v8.alloc (.cells #[.bool z5.s, .slice z5.A z5.n z5.c, .slice z5.B z5.m z5.d] 26)) v10.heap.size (.int .i64 3) (.slice (some ⟨G, 0, none⟩) 1 1) (.bool zk.s) (.slice zk.A zk.n zk.c) (.slice zk.B zk.m zk.d)) := G8.out.below D11.out
   generalize (v8.alloc (.cells #[.bool z5.s, .slice z5.A z5.n z5.c, .slice z5.B z5.m z5.d] 26)) = v11 at *
   obtain ⟨g5, hg5⟩ : ∃ g5, g5 = v8.heap.size := ⟨_, rfl⟩
   rw [← hg5] at N11
   rw [← hg5]
   clear hg5
   clear k0 k1 k2 k3 k4
   obtain ⟨k0, k1, k2, k3, k4⟩ := HAL.out _ P11.out
   refine tr [12] ?_
   refine tc (h := fun K hK => ?_) (hs := tn)
   try go_simp
   go_at_call 35
   have HRV : Hid (RdV v11 4 [z5] [((5 : Int) : Rat)]) := ⟨Z10.out.rw sz_five, trivial⟩
   refine (Beaten_c 4 1 1 (some ⟨v10.heap.size, 0, none⟩) (some ⟨g1, 0, none⟩) (some ⟨g5, 0, none⟩) 1 1 1 1 1 [kn5 sv] [z1] [z5] [((1 : Int) : Rat)] [((5 : Int) : Rat)] _ ⟨by rw [HSV.out]; exact kons5 G8.out, fun x hx => by rw [List.mem_singleton.1 hx]; exact HX.out _ P11.out⟩ (by omega) (by omega) (by omega) (by omega) (HV1.out.1.below P11.out) (RdV.below P11.out HV1.out.2) (by omega) ⟨N11.out, HRV.out, by omega⟩ room41 (fun x hx _ => by rw [List.mem_singleton.1 hx]; exact Nat.le_refl 1) (by omega)).mono ?_
   rintro e v12 ⟨r, rfl, hr, hb⟩
   obtain rfl : r = -1 := hr.same (kn_second (by rw [HSV.out]))
   have P12 : Hid (Below W.heap.size W v12) := P11.out.trans (hb.mono P11.out.size)
   clear hr hb HRV
   clear k0 k1 k2 k3 k4
   obtain ⟨k0, k1, k2, k3, k4⟩ := HAL.out _ P12.out
   try go_wp2_with fail
   refine hK.out _ _ ?_ (fun hHeld => ?_)
   · (try dsimp only); go_keep
   clear hK K
   try simp only [zR]
   refine tk (i := 13) (h := ?_)
   try simp only [zR]
   refine tk (i := 14) (h := ?_)
   try simp only [zR]
   refine tk (i := 15) (h := ?_)
   try simp only [Act.put, List.setIfInBounds_toArray, List.set_cons_zero]
   refine wpAnyH_done (by kernel_rfl) ?_ _
   clear k0 k1 k2 k3 k4
   go_wp2
   go_ret
   exact ⟨rfl, HW.out.2.2.trans (P12.out.mono HW.out.2.2.size)⟩
  ·
   skip
   try go_simp
   try go_wp2_with fail
   refine hK.out _ _ ?_ (fun hHeld => ?_)
   · (try dsimp only); go_keep
   clear hK K
   try simp only [zR]
   have P11 : Hid (Below W.heap.size W (v10.alloc (.cells #[.bool z5.s, .slice z5.A z5.n z5.c, .slice z5.B z5.m z5.d] 26))) := P10.out.trans (((Below.refl _ _).alloc (Nat.le_refl _) _).mono P10.out.size)
   have D11 : Hid (Below v10.heap.size v10 (v10.alloc (.cells #[.bool z5.s, .slice z5.A z5.n z5.c, .slice z5.B z5.m z5.d] 26))) := (Below.refl _ _).alloc (Nat.le_refl _) _
   have N11 : Hid (Nums (v10.alloc (.cells #[.bool z5.s, .slice z5.A z5.n z5.c, .slice z5.B z5.m z5.d] 26)) (some ⟨v10.heap.size, 0, none⟩) 1 [z5]) := nums_one (heap_alloc_new v10 _)
   replace Z10 : Hid (Rt (v10.alloc (.cells #[.bool z5.s, .slice z5.A z5.n z5.c, .slice z5.B z5.m z5.d] 26)) 0 z5 ((5 : Int) : Rat)) := Z10.out.below D11.out
   generalize (v10.alloc (.cells #[.bool z5.s, .slice z5.A z5.n z5.c, .slice z5.B z5.m z5.d] 26)) = v11 at *
   obtain ⟨g5, hg5⟩ : ∃ g5, g5 = v10.heap.size := ⟨_, rfl⟩
   rw [← hg5] at N11
   rw [← hg5]
   clear hg5
   clear k0 k1 k2 k3 k4
   obtain ⟨k0, k1, k2, k3, k4⟩ := HAL.out _ P11.out
   refine tr [8] ?_
   refine tc (h := fun K hK => ?_) (hs := tn)
   try go_simp
   try go_wp2_with fail
   refine hK.out _ _ ?_ (fun hHeld => ?_)
   · (try dsimp only); go_keep
   clear hK K
   try simp only [zR]
   have P8 : Hid (Below W.heap.size W (v11.alloc (.cells #[.int .i64 3, .slice (some ⟨G, 0, none⟩) 1 1, .bool zk.s, .slice zk.A zk.n zk.c, .slice zk.B zk.m zk.d] 28))) := P11.out.trans ((((Below.refl _ _).alloc (Nat.le_refl _) _)).mono P11.out.size)
   have G8 : Hid (C5 (v11.alloc (.cells #[.int .i64 3, .slice (some ⟨G, 0, none⟩) 1 1, .bool zk.s, .slice zk.A zk.n zk.c, .slice zk.B zk.m zk.d] 28)) v11.heap.size (.int .i64 3) (.slice (some ⟨G, 0, none⟩) 1 1) (.bool zk.s) (.slice zk.A zk.n zk.c) (.slice zk.B zk.m zk.d)) := C5.new v11 (.int .i64 3) (.slice (some ⟨G, 0, none⟩) 1 1) (.bool zk.s) (.slice zk.A zk.n zk.c) (.slice zk.B zk.m zk.d)
   have D8 : Hid (Below v11.heap.size v11 (v11.alloc (.cells #[.int .i64 3, .slice (some ⟨G, 0, none⟩) 1 1, .bool zk.s, .slice zk.A zk.n zk.c, .slice zk.B zk.m zk.d] 28))) := ((Below.refl _ _).alloc (Nat.le_refl _) _)
   replace Z10 : Hid (Rt (v11.alloc (.cells #[.int .i64 3, .slice (some ⟨G, 0, none⟩) 1 1, .bool zk.s, .slice zk.A zk.n zk.c, .slice zk.B zk.m zk.d] 28)) 0 z5 ((5 : Int) : Rat)) := Z10.out.below D8.out
   replace N11 : Hid (Nums (v11.alloc (.cells #[.int .i64 3, .slice (some ⟨G, 0, none⟩) 1 1, .bool zk.s, .slice zk.A zk.n zk.c, .slice zk.B zk.m zk.d] 28)) (some ⟨g5, 0, none⟩) 1 [z5]) := N11.out.below D8.out
   generalize (v11.alloc (.cells #[.int .i64 3, .slice (some ⟨G, 0, none⟩) 1 1, .bool zk.s, .slice zk.A zk.n zk.c, .slice zk.B zk.m zk.d] 28)) = v8 at *
   clear k0 k1 k2 k3 k4
   obtain ⟨k0, k1, k2, k3, k4⟩ := HAL.out _ P8.out
   refine tr [12] ?_
   refine tc (h := fun K hK => ?_) (hs := tn)
   try go_simp
   go_at_call 35
   have HRV : Hid (RdV v8 4 [z5] [((5 : Int) : Rat)]) := ⟨Z10.out.rw sz_five, trivial⟩
   refine (Beaten_c 4 1 1 (some ⟨v11.heap.size, 0, none⟩) (some ⟨g1, 0, none⟩) (some ⟨g5, 0, none⟩) 1 1 1 1 1 [kn5 sv] [z1] [z5] [((1 : Int) : Rat)] [((5 : Int) : Rat)] _ ⟨by rw [HSV.out]; exact kons5 G8.out, fun x hx => by rw [List.mem_singleton.1 hx]; exact HX.out _ P8.out⟩ (by omega) (by omega) (by omega) (by omega) (HV1.out.1.below P8.out) (RdV.below P8.out HV1.out.2) (by omega) ⟨N11.out, HRV.out, by omega⟩ room41 (fun x hx _ => by rw [List.mem_singleton.1 hx]; exact Nat.le_refl 1) (by omega)).mono ?_
   rintro e v12 ⟨r, rfl, hr, hb⟩
   obtain rfl : r = -1 := hr.same (kn_second (by rw [HSV.out]))
   have P12 : Hid (Below W.heap.size W v12) := P8.out.trans (hb.mono P8.out.size)
   clear hr hb HRV
   clear k0 k1 k2 k3 k4
   obtain ⟨k0, k1, k2, k3, k4⟩ := HAL.out _ P12.out
   try go_wp2_with fail
   refine hK.out _ _ ?_ (fun hHeld => ?_)
   · (try dsimp only); go_keep
   clear hK K
   try simp only [zR]
   refine tk (i := 13) (h := ?_)
   try simp only [zR]
   refine tk (i := 14) (h := ?_)
   try simp only [zR]
   refine tk (i := 15) (h := ?_)
   try simp only [Act.put, List.setIfInBounds_toArray, List.set_cons_zero]
   refine wpAnyH_done (by kernel_rfl) ?_ _
   clear k0 k1 k2 k3 k4
   go_wp2
   go_ret
   exact ⟨rfl, HW.out.2.2.trans (P12.out.mono HW.out.2.2.size)⟩
end Go.Proofs.YtgffkaconhonlaaGreat
