/-
  Proved: for every two rationals, any signs and limbs, RatOwn answers true and leaves them as they were: what is handed in is not changed, nor kept. No condition.
-/
import Derived.Test.YtgfajmnmeggaeaaRatOwn
import Derived.Test.YtgfajmnmeggaeaaRatOpen
namespace Go.Proofs.Ytgfajmnmeggaeaa
set_option maxRecDepth 20000
open Go.Joins Go.ChangeShapes Go.WideShapes Go.ChangeAt Go.RowKit

set_option maxHeartbeats 800000 in
theorem RatOwn_big (v u : Rv) (w : World) (l_v : v.n ≤ 100000000000000 ∧ v.m ≤ 100000000000000) (l_u : u.n ≤ 100000000000000 ∧ u.m ≤ 100000000000000) (ht : Hid (16 < tot (pick v u u) 2)) :
    Calls Try.prog 4 #[.agg #[.bool v.s, .slice v.A v.n v.c, .slice v.B v.m v.d], .agg #[.bool u.s, .slice u.A u.n u.c, .slice u.B u.m u.d]] w fun e w' => e = .returned (.bool true) ∧ Below w.heap.size w w' := by
  go_enter Try.func4, Try.ntmps4
  go_wp2_with fail
  generalize hW : ((w.alloc (.cells #[.bool v.s, .slice v.A v.n v.c, .slice v.B v.m v.d] 24)).alloc (.cells #[.bool u.s, .slice u.A u.n u.c, .slice u.B u.m u.d] 24)).alloc (.cells #[.bool v.s, .slice v.A v.n v.c, .slice v.B v.m v.d, .bool u.s, .slice u.A u.n u.c, .slice u.B u.m u.d] 24) = W
  obtain ⟨k_v, k_u, HB, hsW, hbig⟩ := open2b w v u W hW
  clear hW
  refine (big_any (pick v u u) (w.heap.size + 1 + 1) 2 _ (by omega) ?_ hbig).mono ?_
  · intro i hi
    have : i = 0 ∨ i = 1 := by omega
    rcases this with rfl | rfl <;> simp only [pick] <;> omega
  rintro e w0 ⟨rfl, hb⟩
  replace HB := HB.trans (hb.mono (by omega))
  clear hb hbig hsW
  rw [decide_eq_true ht.out]
  go_wp2
  go_ret
  exact ⟨rfl, HB⟩
theorem RatOwn_any (v u : Rv) (w : World) (l_v : v.n ≤ 100000000000000 ∧ v.m ≤ 100000000000000) (l_u : u.n ≤ 100000000000000 ∧ u.m ≤ 100000000000000) (c_v : v.n ≤ v.c ∧ v.m ≤ v.d) (c_u : u.n ≤ u.c ∧ u.m ≤ u.d) (r_v : ∃ a b, Row w 0 v.A v.n a ∧ Row w 0 v.B v.m b) (r_u : ∃ a b, Row w 0 u.A u.n a ∧ Row w 0 u.B u.m b) :
    Calls Try.prog 4 #[.agg #[.bool v.s, .slice v.A v.n v.c, .slice v.B v.m v.d], .agg #[.bool u.s, .slice u.A u.n u.c, .slice u.B u.m u.d]] w fun e w' => e = .returned (.bool true) ∧ Below w.heap.size w w' := by
  by_cases h1 : 16 < tot (pick v u u) 2
  · exact RatOwn_big v u w l_v l_u h1
  · simp only [tot, pick] at h1
    obtain ⟨a_v, b_v, ra_v, rb_v⟩ := r_v
    obtain ⟨a_u, b_u, ra_u, rb_u⟩ := r_u
    exact RatOwn_small v u _ _ w (by omega) ⟨c_v.1, c_v.2, by omega, by omega, a_v, b_v, ra_v, rb_v, rfl⟩ ⟨c_u.1, c_u.2, by omega, by omega, a_u, b_u, ra_u, rb_u, rfl⟩

set_option maxRecDepth 100000 in
theorem ratOwn_lifted (os : Os) (started : os.Started) (H : Type) (enc : TypeId × Value → H) :
    ReturnsInHanded {} Try.checked os 4 .any (Rows.ratOwnSpec.pre6 enc Try.prog Try.f4 Rows.ratOwnRow.domain false) (Rows.ratOwnSpec.post enc Try.prog Try.f4 false true false false) := by
  refine returnsInHanded_of_change_sized (C := Try.checked) Try.own started (by kernel_rfl) Try.func4
    (ChangeSpec.witness6 (enc := enc) (C := Try.checked) false ⟨#[], #[.agg #[.bool false, .slice none 0 0, .slice none 0 0], .agg #[.bool false, .slice none 0 0, .slice none 0 0]], []⟩ 8 (by kernel_rfl) (by kernel_rfl) (by kernel_rfl) (by kernel_rfl)) ?_
  intro W base args ds gs before hval0 hW hcnd hsz _
  have hval : ∀ (j : Nat) t v, Try.f4.params[j]? = some t → args[j]? = some v → Value.okWide Try.prog W .any base t v := hval0
  have hW' := hW
  obtain ⟨p, q, hA0, hV, rfl, hfz, hnd⟩ := hW
  have hA : DataW.TrodAll enc Try.prog W 0 (fun _ => true) true Try.f4.params.toList args.toList ds p := hA0
  rw [Try.params4] at hA hval
  obtain ⟨v0, v1, d0, d1, p0, p1, rfl, rfl, rfl, h0, h1⟩ := trodAll_two hA
  obtain ⟨rfl, rfl⟩ := trodVars_none hV
  clear hA0 hval0
  simp only [List.append_nil] at hW'
  have hlt0 : ∀ x ∈ p0, x.block < W.heap.size := fun x hx => hW'.lt x (by simp [hx])
  have hlt1 : ∀ x ∈ p1, x.block < W.heap.size := fun x hx => hW'.lt x (by simp [hx])
  obtain ⟨v, rfl, e_v, g_v, l_v, m_v, a_v, b_v, ra_v, rb_v⟩ := open_rat h0 (hval 0 _ v0 rfl rfl) hlt0 (fun n hn => by simpa using List.all_eq_true.1 hsz _ (DataW.weights_mem_each (j := 0) rfl rfl n hn))
  obtain ⟨u, rfl, e_u, g_u, l_u, m_u, a_u, b_u, ra_u, rb_u⟩ := open_rat h1 (hval 1 _ v1 rfl rfl) hlt1 (fun n hn => by simpa using List.all_eq_true.1 hsz _ (DataW.weights_mem_each (j := 1) rfl rfl n hn))
  have hargs : ∀ (W' : World) (v : Value) (d : DataW H) (ps : List MemPlace), DataW.Trod enc Try.prog W 0 (fun _ => true) true 24 v d ps → (∀ x ∈ ps, x.block < W.heap.size) → Below W.heap.size W W' → DataW.Trod enc Try.prog W' 0 (fun b => decide (b < W.heap.size)) true 24 v d ps :=
    fun W' v d ps h hl hn => Below.trod Try.laidOut (by kernel_rfl) (of_decide_eq_true (by kernel_rfl)) h hn hl
  refine (RatOwn_any v u W ⟨l_v, m_v⟩ ⟨l_u, m_u⟩ ⟨e_v, g_v⟩ ⟨e_u, g_u⟩ ⟨a_v, b_v, ra_v, rb_v⟩ ⟨a_u, b_u, ra_u, rb_u⟩).mono fun e W' ⟨he, hnx⟩ => ?_
  subst he
  refine ⟨_, rfl, _, _, _, [], _, [], hW', ?_, (trodAll_mk2 (hargs _ _ _ _ h0 hlt0 hnx) (hargs _ _ _ _ h1 hlt1 hnx)), rfl, hnx.frame _, fun h => by cases h⟩
  exact trodAll_mk1 (shut_bool Try.underlying4 true)

theorem ratOwn_holds : Rows.RatOwnSaid :=
  OpenClaim.holds_of_wide 4 Try.f4 rfl rfl rfl rfl rfl rfl rfl ⟨rfl, rfl, rfl, rfl, rfl⟩ rfl rfl rfl rfl rfl (by kernel_rfl) Try.func4 (by kernel_rfl)
    (of_decide_eq_true (by kernel_rfl)) (by unfold Func.isWrapper; first | (rw [if_pos (by decide +kernel)]; kernel_rfl) | (rw [if_neg (by decide +kernel)]; exact ⟨rfl, rfl⟩))
    (fun os started H enc _ => ratOwn_lifted os started H enc)
end Go.Proofs.Ytgfajmnmeggaeaa
