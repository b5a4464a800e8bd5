/-
  The document's names of any tree that may be; what is known: a + a is twice a.
-/
import Derived.Test.YtdpbceipiappjaaGreatDoorSrJ
import Derived.Test.YtdpbceipiappjaaGreatDoorSrL
import Derived.Test.YtdpbceipiappjaaGreatDoorMRf
import Derived.Test.YtdpbceipiappjaaGreatDoorMRs
namespace Go.Proofs.YtdpbceipiappjaaGreatDoor
set_option maxRecDepth 20000
open Go.RowKit

theorem NPost.more {w w' : World} {m : List ByteArray} {k j : Nat} {e : Ending} (h : NPost w m k e w') (hj : k ≤ j) : NPost w m j e w' := by
  obtain ⟨A, n, c, l, h1, h2, h3, h4, h5, h6, h7⟩ := h
  exact ⟨A, n, c, l, h1, h2, h3, h4, by omega, h6, h7⟩
theorem Names_c {w0 : World} : ∀ (t : Ex), t.fine → t.wf → t.nodes ≤ 111 → ∀ (v : Ev) (w : World), Tg w0 t v → Below w0.heap.size w0 w → Calls Tryz.prog 7 #[.agg #[.int .i64 v.k, .bool v.r.s, .slice v.r.A v.r.n v.r.c, .slice v.r.B v.r.m v.r.d, .string v.s, .slice v.K v.n v.c]] w (NPost w t.nms t.nodes) := by
  intro t
  induction t with
  | bad => exact fun h => h.elim
  | num r =>
    intro hf _ _ v w hv hb
    obtain ⟨vk, y, st, K, n, c⟩ := v
    obtain ⟨h1, h2, h3, h4⟩ := hv
    dsimp only at h1 h2 h3 h4
    subst h1; subst h2; subst h3
    exact (Names_gen 1 y _ K 0 c (fun _ => Ez) (fun _ => []) (fun _ => 0) w rfl (by omega) (fun i hi => absurd hi (Nat.not_lt_zero _)) (fun _ => Nat.zero_le _) (Nat.zero_le _) (fun i hi => absurd hi (Nat.not_lt_zero _))).mono fun e w' h => NPost.more h (Nat.zero_le _)
  | nm s =>
    intro hf _ _ v w hv hb
    obtain ⟨vk, y, st, K, n, c⟩ := v
    obtain ⟨h1, h2, h3, h4⟩ := hv
    dsimp only at h1 h2 h3 h4
    subst h1; subst h2; subst h3
    exact Names_nm y _ K c w (Nat.le_trans (isName_iff.1 hf).2.1 (by omega))
  | neg a iha =>
    intro hf hw hn v w hv hb
    obtain ⟨vk, y, st, K, n, c⟩ := v
    obtain ⟨h1, h2, h3, h4, b0, off, x, hK, hlt, hx, hta⟩ := hv
    dsimp only at h1 h2 h3 h4 hK
    subst h1; subst h2; subst h3; subst hK
    rw [Ex.nodes] at hn
    have h := Names_gen 7 y ⟨#[]⟩ (some ⟨b0, off, none⟩) 1 c (fun _ => x) (fun _ => a.nms) (fun _ => a.nodes) w rfl (by omega) (fun i hi => ⟨b0, off, rfl, Nat.lt_of_lt_of_le hlt hb.size, by
        obtain rfl : i = 0 := by omega
        exact hx.keep (hb.block b0 hlt)⟩) (fun _ => by omega) (by show 0 + a.nodes ≤ 2000; omega) (fun i hi w' hb' => iha hf hw (by omega) x w' hta (hb.trans (hb'.mono hb.size)))
    refine h.mono fun e w' h => ?_
    have h2 : NPost w ([] ++ a.nms) (0 + a.nodes) e w' := h
    rw [List.nil_append] at h2
    exact h2.more (by rw [Ex.nodes]; omega)
  | bin k a b iha ihb =>
    intro hf hw hn v w hv hb
    obtain ⟨vk, y, st, K, n, c⟩ := v
    obtain ⟨h1, h2, h3, h4, b0, off, x, u, hK, hlt, hx, hu, hta, htb⟩ := hv
    dsimp only at h1 h2 h3 h4 hK
    subst h1; subst h2; subst h3; subst hK
    rw [Ex.nodes] at hn
    have hk : ((k : Int) == 2) = false := beq_eq_false_iff_ne.2 (by have := hw.1; omega)
    have h := Names_gen (k : Int) y ⟨#[]⟩ (some ⟨b0, off, none⟩) 2 c (fun i => if i = 0 then x else u) (fun i => if i = 0 then a.nms else b.nms) (fun i => if i = 0 then a.nodes else b.nodes) w hk (by omega) (fun i hi => ⟨b0, off, rfl, Nat.lt_of_lt_of_le hlt hb.size, by
        have : i = 0 ∨ i = 1 := by omega
        rcases this with rfl | rfl
        · exact hx.keep (hb.block b0 hlt)
        · exact hu.keep (hb.block b0 hlt)⟩) (fun i => by split <;> omega) (by show 0 + a.nodes + b.nodes ≤ 2000; omega) (fun i hi w' hb' => by
        have : i = 0 ∨ i = 1 := by omega
        rcases this with rfl | rfl
        · exact iha hf.1 hw.2.1 (by omega) x w' hta (hb.trans (hb'.mono hb.size))
        · exact ihb hf.2 hw.2.2 (by omega) u w' htb (hb.trans (hb'.mono hb.size)))
    refine h.mono fun e w' h => ?_
    have h2 : NPost w (([] ++ a.nms) ++ b.nms) (0 + a.nodes + b.nodes) e w' := h
    rw [List.nil_append] at h2
    exact h2.more (by rw [Ex.nodes]; omega)
/-- The sum of a + a. -/
abbrev LA : List (Int × Rat) := addL [((0 : Int), ((1 : Int) : Rat))] [((0 : Int), ((1 : Int) : Rat))]
abbrev kA : Rat := ((0 : Int) : Rat) + ((0 : Int) : Rat)
theorem LA_is : LA = [((0 : Int), ((2 : Int) : Rat))] := by
  have e : ((1 : Int) : Rat) + ((1 : Int) : Rat) = ((2 : Int) : Rat) := by rw [← Rat.intCast_add]; rfl
  have n2 : ((2 : Int) : Rat) ≠ 0 := by decide
  show addL _ _ = _
  rw [addL_eq (by omega) (by omega), e, lay1, if_neg n2, addL]; rfl
theorem sz_p2 : Sz ((2 : Int) : Rat) 1 := by
  have := Sz.lit (x := 2) (y := 1) (s := false) (by omega) (by omega)
  rw [rn_int] at this
  simpa using this
def nmA : ByteArray := ⟨#[97]⟩
def tA : Ex := .bin 3 (.nm nmA) (.nm nmA)
theorem tA_may : tA.may 32 256 := by
  have h : isName nmA = true := by decide +kernel
  exact ⟨⟨h, h⟩, by decide +kernel, by decide +kernel⟩
theorem tA_sum : sumOf (gOf fOf [nmA] [] []) tA = .ok LA kA := by
  have h : gOf fOf [nmA] [] [] nmA = some (fOf 0) := by
    have e : ixB nmA [nmA] = some 0 := by rw [ixB, if_pos rfl]
    unfold gOf
    rw [e]; rfl
  unfold tA
  rw [sumOf, sumOf, h]; rfl
theorem atV_nil (i : Int) : atV [] i = 0 := by unfold atV; split <;> simp
/-- The block of the two names. -/
def Two (w : World) (b : Nat) : Prop := w.heap[b]? = some (.cells #[.int .i64 2, .bool false, .slice none 0 0, .slice none 0 0, .string ⟨#[97]⟩, .slice none 0 0, .int .i64 2, .bool false, .slice none 0 0, .slice none 0 0, .string ⟨#[97]⟩, .slice none 0 0] 27 (0, 0))
theorem Two.lt {w : World} {b : Nat} (h : Two w b) : b < w.heap.size := by
  rcases Nat.lt_or_ge b w.heap.size with h1 | h1
  · exact h1
  · have : w.heap[b]? = none := Array.getElem?_eq_none h1
    rw [Two, this] at h; cases h
theorem Two.below {w w' : World} {b : Nat} (h : Two w b) (hb : Below w.heap.size w w') : Two w' b := (hb.block b h.lt).trans h
/-- The block of the one name. -/
def One (w : World) (b : Nat) : Prop := w.heap[b]? = some (.cells #[.string ⟨#[97]⟩] 9 (0, 0))
theorem One.lt {w : World} {b : Nat} (h : One w b) : b < w.heap.size := by
  rcases Nat.lt_or_ge b w.heap.size with h1 | h1
  · exact h1
  · have : w.heap[b]? = none := Array.getElem?_eq_none h1
    rw [One, this] at h; cases h
theorem One.below {w w' : World} {b : Nat} (h : One w b) (hb : Below w.heap.size w w') : One w' b := (hb.block b h.lt).trans h
theorem OfA_c (kb b : Nat) (w : World) (hT : Tb w) (h1 : One w b) (hk : Two w kb) :
    Calls Tryz.prog 9 #[.agg #[.int .i64 3, .bool false, .slice none 0 0, .slice none 0 0, .string ⟨#[]⟩, .slice (some ⟨kb, 0, none⟩) 2 2], .agg #[.slice (some ⟨b, 0, none⟩) 1 1, .slice none 0 0, .slice none 0 0]] w (KR w (.ok LA kA)) := by
  have hE : EnvOk w ⟨some ⟨b, 0, none⟩, 1, 1, none, 0, 0, none, 0, 0⟩ [nmA] [] [] := by
    refine ⟨⟨rfl, fun s hs => ?_, fun _ => ⟨b, 0, rfl, h1.lt, fun j s hj => ?_⟩⟩, ⟨rfl, (fun s hs => by cases hs), fun h => absurd h (Nat.lt_irrefl 0)⟩, ⟨[], nums_nil _, trivial⟩, (show 1 ≤ 1000 by omega), (show 0 ≤ 1000 by omega), (show 0 ≤ 1000 by omega)⟩
    · rcases List.mem_cons.1 hs with rfl | hs
      · decide
      · cases hs
    · cases j with
      | zero =>
        simp at hj
        subst hj
        have h' : w.heap[b]? = some (.cells #[.string ⟨#[97]⟩] 9 (0, 0)) := h1
        simp [World.cell?, h', nmA]
      | succ j => simp at hj
  have hx : ∀ o, o = 0 ∨ o = 6 → At6 w kb o ⟨2, ⟨false, none, 0, 0, none, 0, 0⟩, nmA, none, 0, 0⟩ := fun o ho => by
    have h' : w.heap[kb]? = some (.cells #[.int .i64 2, .bool false, .slice none 0 0, .slice none 0 0, .string ⟨#[97]⟩, .slice none 0 0, .int .i64 2, .bool false, .slice none 0 0, .slice none 0 0, .string ⟨#[97]⟩, .slice none 0 0] 27 (0, 0)) := hk
    rcases ho with rfl | rfl
    · refine ⟨?_, ?_, ?_, ?_, ?_, ?_⟩ <;> simp [World.cell?, h', nmA]
    · refine ⟨?_, ?_, ?_, ?_, ?_, ?_⟩ <;> simp [World.cell?, h', nmA]
  have hn : Tg w (.nm nmA) ⟨2, ⟨false, none, 0, 0, none, 0, 0⟩, nmA, none, 0, 0⟩ := ⟨rfl, rfl, rfl, rfl, rfl, .inl rfl⟩
  have ht : Tg w tA ⟨3, ⟨false, none, 0, 0, none, 0, 0⟩, ⟨#[]⟩, some ⟨kb, 0, none⟩, 2, 2⟩ := ⟨rfl, rfl, rfl, ⟨rfl, rfl, .inl rfl⟩, kb, 0, _, _, rfl, hk.lt, hx _ (.inl rfl), hx _ (.inr rfl), hn, hn⟩
  have h := OfS_c tA ⟨3, ⟨false, none, 0, 0, none, 0, 0⟩, ⟨#[]⟩, some ⟨kb, 0, none⟩, 2, 2⟩ ⟨some ⟨b, 0, none⟩, 1, 1, none, 0, 0, none, 0, 0⟩ [nmA] [] [] w tA_may ⟨.inl rfl, trivial, trivial⟩ ht hT (by decide +kernel) hE (fun i => by rw [atV_nil]; exact Sz.zero (by omega))
  rw [tA_sum] at h
  exact h
set_option maxHeartbeats 6400000 in
theorem known8_c (w : World) (hT : Tb w) : Calls Tryz.prog 11 #[] w fun e w' => e = .returned (.bool true) ∧ Below w.heap.size w w' := by
  have HT := Lib.hid hT
  clear hT
  go_enter Tryz.func11, Tryz.ntmps11
  go_wp2_with fail
  have hk : Two ((w.alloc (.cells #[.int .i64 2, .bool false, .slice none 0 0, .slice none 0 0, .string ⟨#[97]⟩, .slice none 0 0] 27)).alloc (.cells #[.int .i64 2, .bool false, .slice none 0 0, .slice none 0 0, .string ⟨#[97]⟩, .slice none 0 0, .int .i64 2, .bool false, .slice none 0 0, .slice none 0 0, .string ⟨#[97]⟩, .slice none 0 0] 27)) (w.heap.size + 1) := by
    have := heap_alloc_new (w.alloc (.cells #[.int .i64 2, .bool false, .slice none 0 0, .slice none 0 0, .string ⟨#[97]⟩, .slice none 0 0] 27)) (.cells #[.int .i64 2, .bool false, .slice none 0 0, .slice none 0 0, .string ⟨#[97]⟩, .slice none 0 0, .int .i64 2, .bool false, .slice none 0 0, .slice none 0 0, .string ⟨#[97]⟩, .slice none 0 0] 27)
    rw [show (w.alloc (.cells #[.int .i64 2, .bool false, .slice none 0 0, .slice none 0 0, .string ⟨#[97]⟩, .slice none 0 0] 27)).heap.size = w.heap.size + 1 by simp] at this
    exact this
  have hk2 := hk.below ((Below.refl _ _).alloc (Nat.le_refl _) (.cells #[.string ⟨#[97]⟩] 9))
  have ho : One (((w.alloc (.cells #[.int .i64 2, .bool false, .slice none 0 0, .slice none 0 0, .string ⟨#[97]⟩, .slice none 0 0] 27)).alloc (.cells #[.int .i64 2, .bool false, .slice none 0 0, .slice none 0 0, .string ⟨#[97]⟩, .slice none 0 0, .int .i64 2, .bool false, .slice none 0 0, .slice none 0 0, .string ⟨#[97]⟩, .slice none 0 0] 27)).alloc (.cells #[.string ⟨#[97]⟩] 9)) (w.heap.size + 1 + 1) := by
    have := heap_alloc_new ((w.alloc (.cells #[.int .i64 2, .bool false, .slice none 0 0, .slice none 0 0, .string ⟨#[97]⟩, .slice none 0 0] 27)).alloc (.cells #[.int .i64 2, .bool false, .slice none 0 0, .slice none 0 0, .string ⟨#[97]⟩, .slice none 0 0, .int .i64 2, .bool false, .slice none 0 0, .slice none 0 0, .string ⟨#[97]⟩, .slice none 0 0] 27)) (.cells #[.string ⟨#[97]⟩] 9)
    rw [show ((w.alloc (.cells #[.int .i64 2, .bool false, .slice none 0 0, .slice none 0 0, .string ⟨#[97]⟩, .slice none 0 0] 27)).alloc (.cells #[.int .i64 2, .bool false, .slice none 0 0, .slice none 0 0, .string ⟨#[97]⟩, .slice none 0 0, .int .i64 2, .bool false, .slice none 0 0, .slice none 0 0, .string ⟨#[97]⟩, .slice none 0 0] 27)).heap.size = w.heap.size + 1 + 1 by simp] at this
    exact this
  have hB : Below w.heap.size w (((w.alloc (.cells #[.int .i64 2, .bool false, .slice none 0 0, .slice none 0 0, .string ⟨#[97]⟩, .slice none 0 0] 27)).alloc (.cells #[.int .i64 2, .bool false, .slice none 0 0, .slice none 0 0, .string ⟨#[97]⟩, .slice none 0 0, .int .i64 2, .bool false, .slice none 0 0, .slice none 0 0, .string ⟨#[97]⟩, .slice none 0 0] 27)).alloc (.cells #[.string ⟨#[97]⟩] 9)) := (((Below.refl _ _).alloc (Nat.le_refl _) _).alloc (by simp) _).alloc (by simp; omega) _
  clear hk
  generalize ((w.alloc (.cells #[.int .i64 2, .bool false, .slice none 0 0, .slice none 0 0, .string ⟨#[97]⟩, .slice none 0 0] 27)).alloc (.cells #[.int .i64 2, .bool false, .slice none 0 0, .slice none 0 0, .string ⟨#[97]⟩, .slice none 0 0, .int .i64 2, .bool false, .slice none 0 0, .slice none 0 0, .string ⟨#[97]⟩, .slice none 0 0] 27)).alloc (.cells #[.string ⟨#[97]⟩] 9) = WW at *
  refine (OfA_c (w.heap.size + 1) (w.heap.size + 1 + 1) _ (HT.out.below hB) ho hk2).mono ?_
  rintro e w2 ⟨hb, z, rfl, hc⟩
  have hB2 := hB.trans (hb.mono hB.size)
  clear hb hk2 ho hB
  obtain ⟨hcap, ⟨l, ht, hr⟩, _⟩ := hc
  rw [LA_is] at hr
  have hl1 : l.length = 1 := hr.len
  obtain ⟨x, rfl⟩ : ∃ x, l = [x] := List.length_eq_one_iff.1 hl1
  have hzn : z.n = 1 := by rw [← ht.len]; rfl
  have hxr : Rt w2 WW.heap.size x.r ((2 : Int) : Rat) := hr.1.2
  obtain ⟨b, off, hzA, _, hbl, hc⟩ := ht.mem (by omega)
  have hx := hc 0 x rfl
  rw [Nat.zero_mul, Nat.add_zero] at hx
  have kc := C5.new w2 (.int .i64 z.s) (.slice z.A z.n z.c) (.bool z.K.s) (.slice z.K.A z.K.n z.K.c) (.slice z.K.B z.K.m z.K.d)
  rw [hzA, hzn] at kc
  have hxa := hx.keep (((Below.refl w2.heap.size w2).alloc (Nat.le_refl _) (.cells #[.int .i64 z.s, .slice z.A z.n z.c, .bool z.K.s, .slice z.K.A z.K.n z.K.c, .slice z.K.B z.K.m z.K.d] 39)).block b hbl)
  rw [hzA, hzn] at hxa
  have HXR := Lib.hid hxr
  have HB2 := Lib.hid hB2
  have HZ := Lib.hid (And.intro hzA hzn)
  clear hc ht hr hl1 hx hxr hB2 hcap
  go_wp2_with fail
  have hba : Below w2.heap.size w2 (w2.alloc (.cells #[.int .i64 z.s, .slice (some ⟨b, off, none⟩) 1 z.c, .bool z.K.s, .slice z.K.A z.K.n z.K.c, .slice z.K.B z.K.m z.K.d] 39)).drew := ((Below.refl _ _).alloc (Nat.le_refl _) _).drew
  have hzs : (w2.alloc (.cells #[.int .i64 z.s, .slice (some ⟨b, off, none⟩) 1 z.c, .bool z.K.s, .slice z.K.A z.K.n z.K.c, .slice z.K.B z.K.m z.K.d] 39)).heap.size = w2.heap.size + 1 := by simp
  clear hzA hzn
  have HBA := Lib.hid hba
  clear hba
  generalize w2.alloc (.cells #[.int .i64 z.s, .slice (some ⟨b, off, none⟩) 1 z.c, .bool z.K.s, .slice z.K.A z.K.n z.K.c, .slice z.K.B z.K.m z.K.d] 39) = WA at *
  obtain ⟨c0, c1, c2, c3, c4⟩ := kc.facts
  obtain ⟨x0, x1, x2, x3⟩ := hxa
  go_region_held3 (fun w' => w'.cell? ⟨w2.heap.size, 1, none⟩ = some (.slice (some ⟨b, off, none⟩) 1 z.c) ∧ w'.cell? ⟨b, off + 1, none⟩ = some (.bool x.r.s) ∧ w'.cell? ⟨b, off + 2, none⟩ = some (.slice x.r.A x.r.n x.r.c) ∧ w'.cell? ⟨b, off + 3, none⟩ = some (.slice x.r.B x.r.m x.r.d)) (go_keep)
    (first
    | (go_at_call 21
       refine (rInt_c 2 _ (by omega)).mono ?_
       rintro ee w3 ⟨y, rfl, hy, hb⟩
       have hk := hb.block b (by show b < WA.heap.size; omega)
       have hk2 := hb.block w2.heap.size (by show _ < WA.heap.size; omega)
       replace c1 := (World.cell?_of_block hk2).trans c1
       replace x1 := (World.cell?_of_block hk).trans x1
       replace x2 := (World.cell?_of_block hk).trans x2
       replace x3 := (World.cell?_of_block hk).trans x3
       have HB3 := Lib.hid (HBA.out.trans (hb.mono (by show _ ≤ WA.heap.size; omega)))
       have HY := Lib.hid hy
       have hw3 : w2.heap.size + 1 ≤ w3.heap.size := by have h9 : WA.heap.size ≤ w3.heap.size := hb.size; omega
       clear hb hk hk2 hy)
    | (go_at_call 20
       refine (rSame_v x.r y ((2 : Int) : Rat) ((2 : Int) : Rat) true _ (((HXR.out.below HB3.out).rw (sz_p2)).more (by omega)) ((HY.out.rw (sz_p2)).more (by omega)) (decide_eq_true rfl)).mono ?_
       rintro ee w4 ⟨rfl, hb⟩
       have hk := hb.block b (by have := HB3.out.size; omega)
       have hk2 := hb.block w2.heap.size (by omega)
       replace c1 := (World.cell?_of_block hk2).trans c1
       replace x1 := (World.cell?_of_block hk).trans x1
       replace x2 := (World.cell?_of_block hk).trans x2
       replace x3 := (World.cell?_of_block hk).trans x3
       have HB4 := Lib.hid (HB3.out.trans (hb.mono HB3.out.size))
       clear hb hk hk2))
  clear c0 c1 c2 c3 c4 x0 x1 x2 x3
  go_wp2
  go_ret
  exact ⟨rfl, HB2.out.trans (HB4.out.mono HB2.out.size)⟩
end Go.Proofs.YtdpbceipiappjaaGreatDoor
