/-
  DecLong: texts of one digit all: the walk of the law.
-/
import Derived.Test.YtcmomoalohibiaaGreatDoorDecP4
namespace Go.Proofs.YtcmomoalohibiaaGreatDoor
set_option maxRecDepth 20000
open Go.RowKit

theorem ownsRow_next {w w' : World} {B n size : Nat} {e : TypeId} {v : Value} {xs : List Value} (h : w.ownsRow B e size v n xs) (hb : Below w.heap.size w w') : w'.ownsRow B e size v n xs := by
  refine ⟨h.1, ?_⟩
  rcases h.2 with h0 | ⟨g, cap, cur, hv, hlo, hh, rest⟩
  · exact .inl h0
  · exact .inr ⟨g, cap, cur, hv, hlo, (hb.block g (h.lt g (by rw [hv]; rfl)).2).trans hh, rest⟩
/-- The digit's byte. -/
def bt (d : Nat) : UInt8 := UInt8.ofNat (48 + d)
theorem rep_num {n d : Nat} (hn : 0 < n) (hd : d < 10) : IsDs (List.replicate n (bt d)) := by
  refine ⟨by rw [← List.length_pos_iff, List.length_replicate]; exact hn, fun c hc => ?_⟩
  have e := (List.mem_replicate.1 hc).2
  subst e
  have h1 : (bt d).toNat = 48 + d := u8_toNat hd
  omega
theorem long_txt {n d : Nat} (hn : 0 < n) (h4 : n ≤ 400) (hd : d < 10) : Txt ⟨(List.replicate n (bt d)).toArray⟩ (rn false (nu (List.replicate n (bt d))) 1) := by
  have h := rep_num hn hd
  refine ⟨by rw [Lib.size_eq]; simpa using h4, false, ⟨(List.replicate n (bt d)).toArray⟩, _, _, ⟨(fun h => by cases h), fun _ => ⟨rfl, ?_⟩⟩, .whole h, rfl⟩
  intro e
  have hm := List.mem_of_head? e
  exact h.dig.notin (c := 45) (by decide) hm
theorem long_bad {n d : Nat} (h4 : 400 < n) (h5 : n ≤ 450) : Bad ⟨(List.replicate n (bt d)).toArray⟩ 3 := by
  refine .inr ⟨?_, ?_, rfl⟩
  · rw [Lib.size_eq]; simpa using h4
  · rw [Lib.size_eq]; simp; omega
/-- What the loop keeps: k digits are written. -/
structure LgAt (w wx : World) (d k : Nat) (v : Value) : Prop where
  own : wx.ownsRow w.heap.size 5 1 v k (Lib.byteCells (List.replicate k (bt d)))
  below : Below w.heap.size w wx
theorem LgAt.step {w w2 : World} {d k : Nat} {v2 : Value} (hd : d < 10) (hb : Below w.heap.size w w2) (ho : w2.ownsRow w.heap.size 5 1 v2 (k + 1) (Lib.byteCells (List.replicate k (bt d)) ++ [.int .u8 (48 + (d : Int))])) : LgAt w w2 d (k + 1) v2 := by
  refine ⟨?_, hb⟩
  have e : Lib.byteCells (List.replicate (k + 1) (bt d)) = Lib.byteCells (List.replicate k (bt d)) ++ [.int .u8 (48 + (d : Int))] := by
    rw [List.replicate_succ']
    simp only [Lib.byteCells, List.map_append, List.map_cons, List.map_nil]
    have h1 : (bt d).toNat = 48 + d := u8_toNat hd
    rw [h1]; rfl
  rw [e]; exact ho

theorem DecLong_a (i d : Int) (w : World) (h : i < 1) :
    Calls Tryz.prog 7 #[.int .i64 i, .int .i64 d] w fun e w' => e = .returned (.bool true) ∧ Below w.heap.size w w' := by
  go_enter Tryz.func7, Tryz.ntmps7
  go_wp2
  go_ret
  exact ⟨rfl, Below.refl _ _⟩
theorem DecLong_b (i d : Int) (w : World) (h0 : ¬ i < 1) (h : 450 < i) :
    Calls Tryz.prog 7 #[.int .i64 i, .int .i64 d] w fun e w' => e = .returned (.bool true) ∧ Below w.heap.size w w' := by
  go_enter Tryz.func7, Tryz.ntmps7
  go_wp2
  go_ret
  exact ⟨rfl, Below.refl _ _⟩
theorem DecLong_c (i d : Int) (w : World) (h0 : ¬ i < 1) (h1 : ¬ 450 < i) (h : d < 0) :
    Calls Tryz.prog 7 #[.int .i64 i, .int .i64 d] w fun e w' => e = .returned (.bool true) ∧ Below w.heap.size w w' := by
  go_enter Tryz.func7, Tryz.ntmps7
  go_wp2
  go_ret
  exact ⟨rfl, Below.refl _ _⟩
theorem DecLong_d (i d : Int) (w : World) (h0 : ¬ i < 1) (h1 : ¬ 450 < i) (h2 : ¬ d < 0) (h : 9 < d) :
    Calls Tryz.prog 7 #[.int .i64 i, .int .i64 d] w fun e w' => e = .returned (.bool true) ∧ Below w.heap.size w w' := by
  go_enter Tryz.func7, Tryz.ntmps7
  go_wp2
  go_ret
  exact ⟨rfl, Below.refl _ _⟩

set_option maxRecDepth 100000 in
set_option maxHeartbeats 8000000 in
theorem DecLong_num (n d : Nat) (w : World) (h1 : 0 < n) (h5 : n ≤ 450) (h4 : n ≤ 400) (hd : d < 10) (ht : Tb w) (hm : Mx w) :
    Calls Tryz.prog 7 #[.int .i64 (n : Int), .int .i64 (d : Int)] w fun e w' => e = .returned (.bool true) ∧ Below w.heap.size w w' := by
  obtain ⟨i0, hi, hz0, hz1, hz2⟩ := info_parts Tryz.info5
  obtain ⟨r, hr⟩ : ∃ r, rn false (nu (List.replicate n (bt d))) 1 = r := ⟨_, rfl⟩
  have HT : Hid (Txt ⟨(List.replicate n (bt d)).toArray⟩ r) := by show Txt _ _; rw [← hr]; exact long_txt h1 h4 hd
  have sz := HT.out.sz
  have zr : Hid (∀ (z : Rv) (w : World) (lo : Nat), Rt w lo z r → z.n ≤ 100000 ∧ z.m ≤ 100000) := fun z w lo h => h.len sz (by omega)
  clear hr sz
  have HST : Hid (LgAt w w d 0 (.slice none 0 0)) := ⟨World.ownsRow_nil _ _ _ _, Below.refl _ _⟩
  have HTB := Lib.hid ht
  have HMX := Lib.hid hm
  have HDD : Hid (d < 10) := hd
  have W1 : IntKind.u8.wrap (48 + (d : Int)) = 48 + (d : Int) := by rw [IntKind.wrap_u8]; omega
  have W2 : IntKind.i64.wrap (48 + (d : Int)) = 48 + (d : Int) := by rw [IntKind.wrap_i64]; omega
  have n1 : (1 : Int) ≤ (n : Int) := by omega
  have n2 : (n : Int) ≤ 450 := by omega
  have n3 : (d : Int) ≤ 9 := by omega
  have n4 : (n : Int) ≤ 400 := by omega
  have n5 : (0 : Int) ≤ (d : Int) := by omega
  clear ht hm
  go_enter Tryz.func7, Tryz.ntmps7
  go_wp2
  go_loopw [5, 6] (fun tv iv wr => ∃ k : Nat, k ≤ n ∧ iv = .int .i64 (k : Int) ∧ Hid (LgAt w wr d k tv)) (fun _ iv _ => n - (intOf iv).toNat)
  case atStart => exact ⟨0, Nat.zero_le _, rfl, HST⟩
  case round =>
    obtain ⟨k, hk, rfl, HA⟩ := hrel
    clear HST
    by_cases hkn : k < n
    · have hsz := HA.out.below.size
      have STEP : Hid (∀ w2 v2, Below w.heap.size w w2 → w2.ownsRow w.heap.size 5 1 v2 (k + 1) (Lib.byteCells (List.replicate k (bt d)) ++ [.int .u8 (48 + (d : Int))]) → LgAt w w2 d (k + 1) v2) := fun w2 v2 hb ho => LgAt.step HDD.out hb ho
      have OWN := Lib.hid HA.out.own
      have HB := Lib.hid HA.out.below
      have LT := Lib.hid HA.out.own.lt
      clear HA HT zr
      go_wp2_with (at_builtin; refine wpList_append_own _ rfl _ _ 47 rfl w.heap.size 5 i0 (.int .u8 0) 1 1 Tryz.underlying47 hi hz0 hz1 hz2 rfl (by decide) _ _ _ rfl (OWN.out.alloc _) ⟨wr.heap.size, 0, none⟩ 1 1 [Value.int .u8 (48 + (d : Int))] rfl rfl ?c1 ?c2 ?c3 ?c4 ?c5 ?_)
      case c1 => intro j' u' hj'; match j', hj' with | 0, hj' => simp at hj'; subst hj'; simp [Addr.add]
      case c2 => intro u' hu'; simp at hu'; subst hu'; rfl
      case c3 => unfold maxLen; omega
      case c4 => omega
      case c5 => simp; omega
      intro v2 w2 hown2 hgrow _
      have HA2 := Lib.hid (STEP.out w2 v2 ((HB.out.alloc (by omega) _).grown hgrow (by simp; omega) (fun k hk => (LT.out k hk).1)) hown2)
      clear STEP OWN HB LT hown2 hgrow
      go_wp2
      go_roundw
      case rel => exact ⟨k + 1, by omega, by go_num, HA2⟩
      case measure => simp [intOf]; omega
    · have e : k = n := by omega
      subst e
      have hown := HA.out.own
      have HB := HA.out.below
      have ht := HTB.out.below HB
      have hm := HMX.out.below HB
      obtain ⟨l, hl⟩ : ∃ l, l = List.replicate k (bt d) := ⟨_, rfl⟩
      have hll : l.length = k := by rw [hl, List.length_replicate]
      rw [← hl] at hown HT
      clear HA hl
      rcases hown.2 with ⟨-, h0⟩ | ⟨g, cap, cur, rfl, -, -, -, -, -, -⟩
      · omega
      · have HCV : Hid (∀ W : World, W.ownsRow w.heap.size 5 1 (.slice (some ⟨g, 0, none⟩) k cap) k (Lib.byteCells l) → (convert 47 9 (.slice (some ⟨g, 0, none⟩) k cap)).run Tryz.prog W = .ok (.string ⟨l.toArray⟩) W) := by
          intro W ho
          have := run_convert_bytes_back (P := Tryz.prog) W 47 9 5 ⟨g, 0, none⟩ cap l Tryz.underlying47 Tryz.underlying5 Tryz.underlying9 (fun j hj => ho.cells (g := g) rfl j _ (by simp [Lib.byteCells, hj]))
          rw [hll] at this
          exact this
        have hcv := HCV.out _ hown
        clear HTB HMX hll
        go_wp2_with fail
        clear hcv
        refine (dParse_v ⟨l.toArray⟩ r _ HT.out hm).mono ?_
        rintro e w1 ⟨x, rfl, ht_x, hb⟩
        replace HB := HB.trans (hb.mono HB.size)
        replace ht := ht.below hb
        replace hm := hm.below hb
        replace hown := ownsRow_next hown hb
        clear hb
        have hcv0 := hown
        clear hown
        have k_x := C3.new w1 (.bool x.s) (.slice x.A x.n x.c) (.slice x.B x.m x.d)
        have hbn := (Below.refl w1.heap.size w1).alloc (Nat.le_refl _) (.cells #[.bool x.s, .slice x.A x.n x.c, .slice x.B x.m x.d] 24)
        replace HB := HB.trans (hbn.mono HB.size)
        replace ht := ht.below hbn
        replace hm := hm.below hbn
        replace ht_x := ht_x.below hbn
        clear hbn
        obtain ⟨x_0, x_1, x_2, x_3, x_4, x_5⟩ := k_x.facts
        have hown := ownsRow_next hcv0 (below_alloc w1 (.cells #[.bool x.s, .slice x.A x.n x.c, .slice x.B x.m x.d] 24))
        have hcv := HCV.out _ hown
        clear hcv0
        go_wp2_with fail
        clear hcv
        generalize hWx : w1.alloc (.cells #[.bool x.s, .slice x.A x.n x.c, .slice x.B x.m x.d] 24) = Wg1 at *
        clear hWx
        refine (rfParse_v ⟨l.toArray⟩ r _ HT.out).mono ?_
        rintro e w2 ⟨y, rfl, ht_y, hb⟩
        replace HB := HB.trans (hb.mono HB.size)
        replace k_x := k_x.below hb
        replace ht := ht.below hb
        replace hm := hm.below hb
        replace ht_x := ht_x.below hb
        clear hown
        clear hb
        clear x_0 x_1 x_2 x_3 x_4 x_5
        obtain ⟨x_0, x_1, x_2, x_3, x_4, x_5⟩ := k_x.facts
        have k_y := C3.new w2 (.bool y.s) (.slice y.A y.n y.c) (.slice y.B y.m y.d)
        have hbn := (Below.refl w2.heap.size w2).alloc (Nat.le_refl _) (.cells #[.bool y.s, .slice y.A y.n y.c, .slice y.B y.m y.d] 24)
        replace HB := HB.trans (hbn.mono HB.size)
        replace k_x := k_x.below hbn
        replace ht := ht.below hbn
        replace hm := hm.below hbn
        replace ht_x := ht_x.below hbn
        replace ht_y := ht_y.below hbn
        clear hbn x_0 x_1 x_2 x_3 x_4 x_5
        obtain ⟨x_0, x_1, x_2, x_3, x_4, x_5⟩ := k_x.facts
        obtain ⟨y_0, y_1, y_2, y_3, y_4, y_5⟩ := k_y.facts
        go_wp2_with fail
        generalize hWx : w2.alloc (.cells #[.bool y.s, .slice y.A y.n y.c, .slice y.B y.m y.d] 24) = Wg2 at *
        clear hWx
        refine (one_yes x y _ _ _ _ _ ht_x ht_y rfl (zr.out _ _ _ ht_x).1 (zr.out _ _ _ ht_x).2).mono ?_
        rintro e w3 ⟨rfl, hb⟩
        replace HB := HB.trans (hb.mono HB.size)
        replace k_x := k_x.below hb
        replace k_y := k_y.below hb
        replace ht := ht.below hb
        replace hm := hm.below hb
        replace ht_x := ht_x.below hb
        replace ht_y := ht_y.below hb
        clear hb
        clear x_0 x_1 x_2 x_3 x_4 x_5 y_0 y_1 y_2 y_3 y_4 y_5
        obtain ⟨x_0, x_1, x_2, x_3, x_4, x_5⟩ := k_x.facts
        obtain ⟨y_0, y_1, y_2, y_3, y_4, y_5⟩ := k_y.facts
        go_wp2_with fail
        refine (known3_any _ ht).mono ?_
        rintro e w4 ⟨rfl, hb⟩
        replace HB := HB.trans (hb.mono HB.size)
        replace k_x := k_x.below hb
        replace k_y := k_y.below hb
        replace ht := ht.below hb
        replace hm := hm.below hb
        replace ht_x := ht_x.below hb
        replace ht_y := ht_y.below hb
        clear hb
        clear x_0 x_1 x_2 x_3 x_4 x_5 y_0 y_1 y_2 y_3 y_4 y_5
        obtain ⟨x_0, x_1, x_2, x_3, x_4, x_5⟩ := k_x.facts
        obtain ⟨y_0, y_1, y_2, y_3, y_4, y_5⟩ := k_y.facts
        clear x_0 x_1 x_2 x_3 x_4 x_5 y_0 y_1 y_2 y_3 y_4 y_5
        go_wp2
        go_ret
        exact ⟨rfl, HB⟩

set_option maxRecDepth 100000 in
set_option maxHeartbeats 8000000 in
theorem DecLong_bad (n d : Nat) (w : World) (h1 : 0 < n) (h5 : n ≤ 450) (h4 : 400 < n) (hd : d < 10) (ht : Tb w) (hm : Mx w) :
    Calls Tryz.prog 7 #[.int .i64 (n : Int), .int .i64 (d : Int)] w fun e w' => e = .returned (.bool true) ∧ Below w.heap.size w w' := by
  obtain ⟨i0, hi, hz0, hz1, hz2⟩ := info_parts Tryz.info5
  have HT : Hid (Bad ⟨(List.replicate n (bt d)).toArray⟩ 3) := long_bad h4 h5
  have HST : Hid (LgAt w w d 0 (.slice none 0 0)) := ⟨World.ownsRow_nil _ _ _ _, Below.refl _ _⟩
  have HTB := Lib.hid ht
  have HMX := Lib.hid hm
  have HDD : Hid (d < 10) := hd
  have W1 : IntKind.u8.wrap (48 + (d : Int)) = 48 + (d : Int) := by rw [IntKind.wrap_u8]; omega
  have W2 : IntKind.i64.wrap (48 + (d : Int)) = 48 + (d : Int) := by rw [IntKind.wrap_i64]; omega
  have n1 : (1 : Int) ≤ (n : Int) := by omega
  have n2 : (n : Int) ≤ 450 := by omega
  have n3 : (d : Int) ≤ 9 := by omega
  have n4 : (400 : Int) < (n : Int) := by omega
  have n5 : (0 : Int) ≤ (d : Int) := by omega
  clear ht hm
  go_enter Tryz.func7, Tryz.ntmps7
  go_wp2
  go_loopw [5, 6] (fun tv iv wr => ∃ k : Nat, k ≤ n ∧ iv = .int .i64 (k : Int) ∧ Hid (LgAt w wr d k tv)) (fun _ iv _ => n - (intOf iv).toNat)
  case atStart => exact ⟨0, Nat.zero_le _, rfl, HST⟩
  case round =>
    obtain ⟨k, hk, rfl, HA⟩ := hrel
    clear HST
    by_cases hkn : k < n
    · have hsz := HA.out.below.size
      have STEP : Hid (∀ w2 v2, Below w.heap.size w w2 → w2.ownsRow w.heap.size 5 1 v2 (k + 1) (Lib.byteCells (List.replicate k (bt d)) ++ [.int .u8 (48 + (d : Int))]) → LgAt w w2 d (k + 1) v2) := fun w2 v2 hb ho => LgAt.step HDD.out hb ho
      have OWN := Lib.hid HA.out.own
      have HB := Lib.hid HA.out.below
      have LT := Lib.hid HA.out.own.lt
      clear HA HT
      go_wp2_with (at_builtin; refine wpList_append_own _ rfl _ _ 47 rfl w.heap.size 5 i0 (.int .u8 0) 1 1 Tryz.underlying47 hi hz0 hz1 hz2 rfl (by decide) _ _ _ rfl (OWN.out.alloc _) ⟨wr.heap.size, 0, none⟩ 1 1 [Value.int .u8 (48 + (d : Int))] rfl rfl ?c1 ?c2 ?c3 ?c4 ?c5 ?_)
      case c1 => intro j' u' hj'; match j', hj' with | 0, hj' => simp at hj'; subst hj'; simp [Addr.add]
      case c2 => intro u' hu'; simp at hu'; subst hu'; rfl
      case c3 => unfold maxLen; omega
      case c4 => omega
      case c5 => simp; omega
      intro v2 w2 hown2 hgrow _
      have HA2 := Lib.hid (STEP.out w2 v2 ((HB.out.alloc (by omega) _).grown hgrow (by simp; omega) (fun k hk => (LT.out k hk).1)) hown2)
      clear STEP OWN HB LT hown2 hgrow
      go_wp2
      go_roundw
      case rel => exact ⟨k + 1, by omega, by go_num, HA2⟩
      case measure => simp [intOf]; omega
    · have e : k = n := by omega
      subst e
      have hown := HA.out.own
      have HB := HA.out.below
      have ht := HTB.out.below HB
      have hm := HMX.out.below HB
      obtain ⟨l, hl⟩ : ∃ l, l = List.replicate k (bt d) := ⟨_, rfl⟩
      have hll : l.length = k := by rw [hl, List.length_replicate]
      rw [← hl] at hown HT
      clear HA hl
      rcases hown.2 with ⟨-, h0⟩ | ⟨g, cap, cur, rfl, -, -, -, -, -, -⟩
      · omega
      · have HCV : Hid (∀ W : World, W.ownsRow w.heap.size 5 1 (.slice (some ⟨g, 0, none⟩) k cap) k (Lib.byteCells l) → (convert 47 9 (.slice (some ⟨g, 0, none⟩) k cap)).run Tryz.prog W = .ok (.string ⟨l.toArray⟩) W) := by
          intro W ho
          have := run_convert_bytes_back (P := Tryz.prog) W 47 9 5 ⟨g, 0, none⟩ cap l Tryz.underlying47 Tryz.underlying5 Tryz.underlying9 (fun j hj => ho.cells (g := g) rfl j _ (by simp [Lib.byteCells, hj]))
          rw [hll] at this
          exact this
        have hcv := HCV.out _ hown
        clear HTB HMX hll
        go_wp2_with fail
        clear hcv
        refine (dParse_bad ⟨l.toArray⟩ 3 _ HT.out hm).mono ?_
        rintro e w1 ⟨rfl, hb⟩
        replace HB := HB.trans (hb.mono HB.size)
        replace ht := ht.below hb
        replace hm := hm.below hb
        replace hown := ownsRow_next hown hb
        clear hb
        clear hown
        have k_x := C3.new w1 (.bool false) (.slice none 0 0) (.slice none 0 0)
        have hbn := (Below.refl w1.heap.size w1).alloc (Nat.le_refl _) (.cells #[.bool false, .slice none 0 0, .slice none 0 0] 24)
        replace HB := HB.trans (hbn.mono HB.size)
        replace ht := ht.below hbn
        replace hm := hm.below hbn
        clear hbn
        obtain ⟨x_0, x_1, x_2, x_3, x_4, x_5⟩ := k_x.facts
        go_wp2_with fail
        generalize hWx : w1.alloc (.cells #[.bool false, .slice none 0 0, .slice none 0 0] 24) = Wg1 at *
        clear hWx
        refine (rZero_v ⟨false, none, 0, 0, none, 0, 0⟩ 0 true _ ((Rw.zero _).more (by omega)) (decide_eq_true rfl)).mono ?_
        rintro e w2 ⟨rfl, hb⟩
        replace HB := HB.trans (hb.mono HB.size)
        replace k_x := k_x.below hb
        replace ht := ht.below hb
        replace hm := hm.below hb
        clear hb
        clear x_0 x_1 x_2 x_3 x_4 x_5
        obtain ⟨x_0, x_1, x_2, x_3, x_4, x_5⟩ := k_x.facts
        go_wp2_with fail
        refine (known3_any _ ht).mono ?_
        rintro e w3 ⟨rfl, hb⟩
        replace HB := HB.trans (hb.mono HB.size)
        replace k_x := k_x.below hb
        replace ht := ht.below hb
        replace hm := hm.below hb
        clear hb
        clear x_0 x_1 x_2 x_3 x_4 x_5
        obtain ⟨x_0, x_1, x_2, x_3, x_4, x_5⟩ := k_x.facts
        clear x_0 x_1 x_2 x_3 x_4 x_5
        go_wp2
        go_ret
        exact ⟨rfl, HB⟩

theorem DecLong_any (i d : Int) (w : World) (ht : Tb w) (hm : Mx w) :
    Calls Tryz.prog 7 #[.int .i64 i, .int .i64 d] w fun e w' => e = .returned (.bool true) ∧ Below w.heap.size w w' := by
  by_cases h0 : i < 1
  · exact DecLong_a i d w h0
  · by_cases h1 : 450 < i
    · exact DecLong_b i d w h0 h1
    · by_cases h2 : d < 0
      · exact DecLong_c i d w h0 h1 h2
      · by_cases h3 : 9 < d
        · exact DecLong_d i d w h0 h1 h2 h3
        · obtain ⟨n, rfl⟩ := Int.eq_ofNat_of_zero_le (show 0 ≤ i by omega)
          obtain ⟨m, rfl⟩ := Int.eq_ofNat_of_zero_le (show 0 ≤ d by omega)
          by_cases h4 : n ≤ 400
          · exact DecLong_num n m w (by omega) (by omega) h4 (by omega) ht hm
          · exact DecLong_bad n m w (by omega) (by omega) (by omega) (by omega) ht hm
end Go.Proofs.YtcmomoalohibiaaGreatDoor
