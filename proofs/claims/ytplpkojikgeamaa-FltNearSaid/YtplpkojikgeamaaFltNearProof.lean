/-
  Proved: for every rational, any sign and limbs, FltNear answers true and leaves it as it was: no other number of 64 bits is nearer than the one that is told. No condition.
-/
import Derived.Test.YtplpkojikgeamaaFltNear
import Derived.Test.YtplpkojikgeamaaRatOpen
namespace Go.Proofs.Ytplpkojikgeamaa
set_option maxRecDepth 20000
open Go.Joins Go.ChangeShapes Go.WideShapes Go.ChangeAt Go.RowKit

set_option maxHeartbeats 800000 in
theorem FltNear_big (v : Rv) (w : World) (l_v : v.n ≤ 100000000000000 ∧ v.m ≤ 100000000000000) (ht : Hid (16 < tot (pick v v v) 1)) :
    Calls Try.prog 5 #[.agg #[.bool v.s, .slice v.A v.n v.c, .slice v.B v.m v.d]] w fun e w' => e = .returned (.bool true) ∧ Below w.heap.size w w' := by
  go_enter Try.func5, Try.ntmps5
  go_wp2_with fail
  generalize hW : (w.alloc (.cells #[.bool v.s, .slice v.A v.n v.c, .slice v.B v.m v.d] 24)).alloc (.cells #[.bool v.s, .slice v.A v.n v.c, .slice v.B v.m v.d] 24) = W
  obtain ⟨k_v, HB, hsW, hbig⟩ := open1b w v W hW
  clear hW
  refine (big4_any (pick v v v) (w.heap.size + 1) 1 _ (by omega) ?_ hbig).mono ?_
  · intro i hi
    have : i = 0 := by omega
    rcases this with rfl <;> simp only [pick] <;> omega
  rintro e w0 ⟨rfl, hb⟩
  replace HB := HB.trans (hb.mono (by omega))
  clear hb hbig hsW
  rw [decide_eq_true ht.out]
  go_wp2
  go_ret
  exact ⟨rfl, HB⟩
theorem FltNear_any (v : Rv) (w : World) (l_v : v.n ≤ 100000000000000 ∧ v.m ≤ 100000000000000) (c_v : v.n ≤ v.c ∧ v.m ≤ v.d) (r_v : ∃ a b, Row w 0 v.A v.n a ∧ Row w 0 v.B v.m b) :
    Calls Try.prog 5 #[.agg #[.bool v.s, .slice v.A v.n v.c, .slice v.B v.m v.d]] w fun e w' => e = .returned (.bool true) ∧ Below w.heap.size w w' := by
  by_cases h1 : 16 < tot (pick v v v) 1
  · exact FltNear_big v w l_v h1
  · simp only [tot, pick] at h1
    obtain ⟨a_v, b_v, ra_v, rb_v⟩ := r_v
    exact FltNear_small v _ w (by omega) ⟨c_v.1, c_v.2, by omega, by omega, a_v, b_v, ra_v, rb_v, rfl⟩

set_option maxRecDepth 100000 in
theorem fltNear_lifted (os : Os) (started : os.Started) (H : Type) (enc : TypeId × Value → H) :
    ReturnsInHanded {} Try.checked os 5 .any (Rows.fltNearSpec.pre6 enc Try.prog Try.f5 Rows.fltNearRow.domain false) (Rows.fltNearSpec.post enc Try.prog Try.f5 false true false false) := by
  refine returnsInHanded_of_change_sized (C := Try.checked) Try.own started (by kernel_rfl) Try.func5
    (ChangeSpec.witness6 (enc := enc) (C := Try.checked) false ⟨#[], #[.agg #[.bool false, .slice none 0 0, .slice none 0 0]], []⟩ 8 (by kernel_rfl) (by kernel_rfl) (by kernel_rfl) (by kernel_rfl)) ?_
  intro W base args ds gs before hval0 hW hcnd hsz _
  have hval : ∀ (j : Nat) t v, Try.f5.params[j]? = some t → args[j]? = some v → Value.okWide Try.prog W .any base t v := hval0
  have hW' := hW
  obtain ⟨p, q, hA0, hV, rfl, hfz, hnd⟩ := hW
  have hA : DataW.TrodAll enc Try.prog W 0 (fun _ => true) true Try.f5.params.toList args.toList ds p := hA0
  rw [Try.params5] at hA hval
  obtain ⟨v0, d0, rfl, rfl, h0⟩ := trodAll_one hA
  obtain ⟨rfl, rfl⟩ := trodVars_none hV
  clear hA0 hval0
  simp only [List.append_nil] at hW'
  have hlt0 : ∀ x ∈ p, x.block < W.heap.size := fun x hx => hW'.lt x (by simpa using hx)
  obtain ⟨v, rfl, e_v, g_v, l_v, m_v, a_v, b_v, ra_v, rb_v⟩ := open_rat h0 (hval 0 _ v0 rfl rfl) hlt0 (fun n hn => by simpa using List.all_eq_true.1 hsz _ (DataW.weights_mem_each (j := 0) rfl rfl n hn))
  have hargs : ∀ (W' : World) (v : Value) (d : DataW H) (ps : List MemPlace), DataW.Trod enc Try.prog W 0 (fun _ => true) true 24 v d ps → (∀ x ∈ ps, x.block < W.heap.size) → Below W.heap.size W W' → DataW.Trod enc Try.prog W' 0 (fun b => decide (b < W.heap.size)) true 24 v d ps :=
    fun W' v d ps h hl hn => Below.trod Try.laidOut (by kernel_rfl) (of_decide_eq_true (by kernel_rfl)) h hn hl
  refine (FltNear_any v W ⟨l_v, m_v⟩ ⟨e_v, g_v⟩ ⟨a_v, b_v, ra_v, rb_v⟩).mono fun e W' ⟨he, hnx⟩ => ?_
  subst he
  refine ⟨_, rfl, _, _, _, [], _, [], hW', ?_, (trodAll_mk1 (hargs _ _ _ _ h0 hlt0 hnx)), rfl, hnx.frame _, fun h => by cases h⟩
  exact trodAll_mk1 (shut_bool Try.underlying4 true)

theorem fltNear_holds : Rows.FltNearSaid :=
  OpenClaim.holds_of_wide 5 Try.f5 rfl rfl rfl rfl rfl rfl rfl ⟨rfl, rfl, rfl, rfl, rfl⟩ rfl rfl rfl rfl rfl (by kernel_rfl) Try.func5 (by kernel_rfl)
    (of_decide_eq_true (by kernel_rfl)) (by unfold Func.isWrapper; first | (rw [if_pos (by decide +kernel)]; kernel_rfl) | (rw [if_neg (by decide +kernel)]; exact ⟨rfl, rfl⟩))
    (fun os started H enc _ => fltNear_lifted os started H enc)
end Go.Proofs.Ytplpkojikgeamaa
