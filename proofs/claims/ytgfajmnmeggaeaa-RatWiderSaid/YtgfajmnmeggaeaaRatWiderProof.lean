/-
  Proved: for every rational, any sign and limbs, and every 32-bit number, RatWider answers true and leaves the rational as it was: a number whose parts are so often the same, and one with noughts behind its parts, is the same number. No condition.
-/
import Derived.Test.YtgfajmnmeggaeaaRatWider
import Derived.Test.YtgfajmnmeggaeaaRatOpen
namespace Go.Proofs.Ytgfajmnmeggaeaa
set_option maxRecDepth 20000
open Go.Joins Go.ChangeShapes Go.WideShapes Go.ChangeAt Go.RowKit

set_option maxHeartbeats 800000 in
theorem RatWider_big (v : Rv) (y : Nat) (w : World) (l_v : v.n ≤ 100000000000000 ∧ v.m ≤ 100000000000000) (ht : Hid (16 < tot (pick v v v) 1)) :
    Calls Try.prog 3 #[.agg #[.bool v.s, .slice v.A v.n v.c, .slice v.B v.m v.d], .int .u32 (y : Int)] w fun e w' => e = .returned (.bool true) ∧ Below w.heap.size w w' := by
  go_enter Try.func3, Try.ntmps3
  go_wp2_with fail
  generalize hW : (w.alloc (.cells #[.bool v.s, .slice v.A v.n v.c, .slice v.B v.m v.d] 24)).alloc (.cells #[.bool v.s, .slice v.A v.n v.c, .slice v.B v.m v.d] 24) = W
  obtain ⟨k_v, HB, hsW, hbig⟩ := open1b w v W hW
  clear hW
  refine (big_any (pick v v v) (w.heap.size + 1) 1 _ (by omega) ?_ hbig).mono ?_
  · intro i hi
    have : i = 0 := by omega
    rcases this with rfl <;> simp only [pick] <;> omega
  rintro e w0 ⟨rfl, hb⟩
  replace HB := HB.trans (hb.mono (by omega))
  clear hb hbig hsW
  rw [decide_eq_true ht.out]
  go_wp2
  go_ret
  exact ⟨rfl, HB⟩
set_option maxHeartbeats 1600000 in
theorem RatWider_nought (v : Rv) (y : Nat) (w : World) (hlen : Hid (tot (pick v v v) 1 ≤ 16)) (hy : Hid (y = 0)) (l_v : v.n ≤ 100000000000000 ∧ v.m ≤ 100000000000000) :
    Calls Try.prog 3 #[.agg #[.bool v.s, .slice v.A v.n v.c, .slice v.B v.m v.d], .int .u32 (y : Int)] w fun e w' => e = .returned (.bool true) ∧ Below w.heap.size w w' := by
  go_enter Try.func3, Try.ntmps3
  go_wp2_with fail
  generalize hW : (w.alloc (.cells #[.bool v.s, .slice v.A v.n v.c, .slice v.B v.m v.d] 24)).alloc (.cells #[.bool v.s, .slice v.A v.n v.c, .slice v.B v.m v.d] 24) = W
  obtain ⟨k_v, HB, hsW, hbig⟩ := open1b w v W hW
  clear hW
  refine (big_any (pick v v v) (w.heap.size + 1) 1 _ (by omega) ?_ hbig).mono ?_
  · intro i hi
    have : i = 0 := by omega
    rcases this with rfl <;> simp only [pick] <;> omega
  rintro e w0 ⟨rfl, hb⟩
  replace HB := HB.trans (hb.mono (by omega))
  replace k_v := k_v.below hb
  clear hb hbig hsW
  rw [decide_eq_false (show ¬ 16 < tot (pick v v v) 1 by have := hlen.out; omega)]
  obtain ⟨v_0, v_1, v_2, v_3, v_4, v_5⟩ := k_v.facts
  have hb0 : ((y : Int) == 0) = true := by rw [beq_iff_eq]; have := hy.out; omega
  go_wp2_with fail
  go_ret
  exact ⟨rfl, HB⟩
set_option maxHeartbeats 1600000 in
theorem RatWider_more (v : Rv) (y : Nat) (w : World) (hlen : Hid (tot (pick v v v) 1 ≤ 16)) (hy : Hid (y ≠ 0)) (hmore : Hid (8 < v.n + v.m)) (l_v : v.n ≤ 100000000000000 ∧ v.m ≤ 100000000000000) :
    Calls Try.prog 3 #[.agg #[.bool v.s, .slice v.A v.n v.c, .slice v.B v.m v.d], .int .u32 (y : Int)] w fun e w' => e = .returned (.bool true) ∧ Below w.heap.size w w' := by
  go_enter Try.func3, Try.ntmps3
  go_wp2_with fail
  generalize hW : (w.alloc (.cells #[.bool v.s, .slice v.A v.n v.c, .slice v.B v.m v.d] 24)).alloc (.cells #[.bool v.s, .slice v.A v.n v.c, .slice v.B v.m v.d] 24) = W
  obtain ⟨k_v, HB, hsW, hbig⟩ := open1b w v W hW
  clear hW
  refine (big_any (pick v v v) (w.heap.size + 1) 1 _ (by omega) ?_ hbig).mono ?_
  · intro i hi
    have : i = 0 := by omega
    rcases this with rfl <;> simp only [pick] <;> omega
  rintro e w0 ⟨rfl, hb⟩
  replace HB := HB.trans (hb.mono (by omega))
  replace k_v := k_v.below hb
  clear hb hbig hsW
  rw [decide_eq_false (show ¬ 16 < tot (pick v v v) 1 by have := hlen.out; omega)]
  obtain ⟨v_0, v_1, v_2, v_3, v_4, v_5⟩ := k_v.facts
  have hb0 : ((y : Int) == 0) = false := by rw [beq_eq_false_iff_ne]; have := hy.out; omega
  have HM : (8 : Int) < v.n + v.m := by have := hmore.out; omega
  go_wp2_with fail
  go_ret
  exact ⟨rfl, HB⟩
theorem RatWider_any (v : Rv) (i : Int) (w : World) (hi : 0 ≤ i ∧ i ≤ 4294967295) (l_v : v.n ≤ 100000000000000 ∧ v.m ≤ 100000000000000) (c_v : v.n ≤ v.c ∧ v.m ≤ v.d) (r_v : ∃ a b, Row w 0 v.A v.n a ∧ Row w 0 v.B v.m b) :
    Calls Try.prog 3 #[.agg #[.bool v.s, .slice v.A v.n v.c, .slice v.B v.m v.d], .int .u32 i] w fun e w' => e = .returned (.bool true) ∧ Below w.heap.size w w' := by
  obtain ⟨y, rfl⟩ : ∃ y : Nat, i = (y : Int) := ⟨i.toNat, by omega⟩
  by_cases h1 : 16 < tot (pick v v v) 1
  · exact RatWider_big v y w l_v h1
  · by_cases h2 : y = 0
    · exact RatWider_nought v y w (Nat.le_of_not_lt h1) h2 l_v
    · by_cases h3 : 8 < v.n + v.m
      · exact RatWider_more v y w (Nat.le_of_not_lt h1) h2 h3 l_v
      · obtain ⟨a, b, ra, rb⟩ := r_v
        exact RatWider_small v y _ w (by omega) h2 (show y < 4294967296 by omega) ⟨c_v.1, c_v.2, by omega, by omega, a, b, ra, rb, rfl⟩

set_option maxRecDepth 100000 in
theorem ratWider_lifted (os : Os) (started : os.Started) (H : Type) (enc : TypeId × Value → H) :
    ReturnsInHanded {} Try.checked os 3 .any (Rows.ratWiderSpec.pre6 enc Try.prog Try.f3 Rows.ratWiderRow.domain false) (Rows.ratWiderSpec.post enc Try.prog Try.f3 false true false false) := by
  refine returnsInHanded_of_change_sized (C := Try.checked) Try.own started (by kernel_rfl) Try.func3
    (ChangeSpec.witness6 (enc := enc) (C := Try.checked) false ⟨#[], #[.agg #[.bool false, .slice none 0 0, .slice none 0 0], .int .u32 0], []⟩ 8 (by kernel_rfl) (by kernel_rfl) (by kernel_rfl) (by kernel_rfl)) ?_
  intro W base args ds gs before hval0 hW hcnd hsz _
  have hval : ∀ (j : Nat) t v, Try.f3.params[j]? = some t → args[j]? = some v → Value.okWide Try.prog W .any base t v := hval0
  have hW' := hW
  obtain ⟨p, q, hA0, hV, rfl, hfz, hnd⟩ := hW
  have hA : DataW.TrodAll enc Try.prog W 0 (fun _ => true) true Try.f3.params.toList args.toList ds p := hA0
  rw [Try.params3] at hA hval
  obtain ⟨v0, v1, d0, d1, p0, p1, rfl, rfl, rfl, h0, h1⟩ := trodAll_two hA
  obtain ⟨rfl, rfl⟩ := trodVars_none hV
  clear hA0 hval0
  simp only [List.append_nil] at hW'
  obtain ⟨i1, rfl, rfl, rfl, wi1⟩ := open_int Try.underlying25 (hval 1 _ v1 rfl rfl) h1
  have hi1 : 0 ≤ i1 ∧ i1 ≤ 4294967295 := by
    have e1 : IntKind.u32.min = 0 := rfl
    have e2 : IntKind.u32.max = 4294967295 := rfl
    have := wi1
    simp only [Lit.wf, Bool.and_eq_true, decide_eq_true_eq] at this
    omega
  have hlt0 : ∀ x ∈ p0, x.block < W.heap.size := fun x hx => hW'.lt x (by simp [hx])
  obtain ⟨v, rfl, e_v, g_v, l_v, m_v, a_v, b_v, ra_v, rb_v⟩ := open_rat h0 (hval 0 _ v0 rfl rfl) hlt0 (fun n hn => by simpa using List.all_eq_true.1 hsz _ (DataW.weights_mem_each (j := 0) rfl rfl n hn))
  have hargs : ∀ (W' : World) (v : Value) (d : DataW H) (ps : List MemPlace), DataW.Trod enc Try.prog W 0 (fun _ => true) true 24 v d ps → (∀ x ∈ ps, x.block < W.heap.size) → Below W.heap.size W W' → DataW.Trod enc Try.prog W' 0 (fun b => decide (b < W.heap.size)) true 24 v d ps :=
    fun W' v d ps h hl hn => Below.trod Try.laidOut (by kernel_rfl) (of_decide_eq_true (by kernel_rfl)) h hn hl
  refine (RatWider_any v i1 W hi1 ⟨l_v, m_v⟩ ⟨e_v, g_v⟩ ⟨a_v, b_v, ra_v, rb_v⟩).mono fun e W' ⟨he, hnx⟩ => ?_
  subst he
  refine ⟨_, rfl, _, _, _, [], _, [], hW', ?_, (trodAll_mk2 (hargs _ _ _ _ h0 hlt0 hnx) (shut_int Try.underlying25 wi1)), rfl, hnx.frame _, fun h => by cases h⟩
  exact trodAll_mk1 (shut_bool Try.underlying4 true)

theorem ratWider_holds : Rows.RatWiderSaid :=
  OpenClaim.holds_of_wide 3 Try.f3 rfl rfl rfl rfl rfl rfl rfl ⟨rfl, rfl, rfl, rfl, rfl⟩ rfl rfl rfl rfl rfl (by kernel_rfl) Try.func3 (by kernel_rfl)
    (of_decide_eq_true (by kernel_rfl)) (by unfold Func.isWrapper; first | (rw [if_pos (by decide +kernel)]; kernel_rfl) | (rw [if_neg (by decide +kernel)]; exact ⟨rfl, rfl⟩))
    (fun os started H enc _ => ratWider_lifted os started H enc)
end Go.Proofs.Ytgfajmnmeggaeaa
