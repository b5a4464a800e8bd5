/-
  A row's arguments opened: a struct of a sign and two slices of uint32 that is read as data reads as a rational.
  What a card's condition gives the walks: the table of powers of ten; the builder that hands over both the condition and the world's shape.
  What the world's shape gives the walks: the library's variable holds some int.
-/
import Derived.Test.YtcmomoalohibiaaGreatDoorOpen
import Derived.Test.YtcmomoalohibiaaGreatDoorRatP
import Derived.Lib.SmallJoins
import Derived.SizedLaws
import Derived.Test.YtcmomoalohibiaaGreatDoorTxtP
import Derived.LaidMore
import Derived.Handed
import Derived.Stop.Joined
import Derived.Lib.LaidTab
import Derived.Lay
import Derived.OpenShut
import Derived.ShutString
import Derived.SevenTiedAt
import Derived.Stop.LaidErr
import Derived.Test.YtcmomoalohibiaaGreatDoorTie
import Derived.Test.YtcmomoalohibiaaGreatDoorCards
import Derived.Test.YtcmomoalohibiaaGreatDoorDecR
import Derived.Test.YtcmomoalohibiaaGreatDoorShelfB
namespace Go.Proofs.YtcmomoalohibiaaGreatDoor
set_option maxRecDepth 20000
open Go.Joins Go.ChangeShapes Go.WideShapes Go.ChangeAt Go.RowKit

theorem Tryz.cells24 : Tryz.prog.cellsOf 24 = 3 := by kernel_rfl
theorem Tryz.bytes50 : Tryz.prog.bytesOf 50 = 4 := by kernel_rfl

set_option maxRecDepth 100000 in
theorem open_limbs {H : Type} {enc : TypeId × Value → H} {W : World} {v : Value} {y : DataW H × List MemPlace} {fuel : Nat} (hf : DataW.trod enc Tryz.prog W 0 (fun _ => true) true fuel 22 [v] = some y)
    (hlt : ∀ x ∈ y.2, x.block < W.heap.size) (hsz : ∀ n ∈ y.1.weights Tryz.prog 22, n ≤ reachBytes) :
    ∃ A n c l, v = .slice A n c ∧ n ≤ c ∧ c ≤ 100000000000000 ∧ Row W 0 A n l := by
  rcases open_ints Tryz.underlying22 Tryz.underlying50 Tryz.cells50 hf with ⟨hcs, hx⟩ | ⟨a, len', cap', zs, hcs, _, hl, hm, hz, hx, hcell, hwz⟩
  · simp at hcs
    subst hcs
    exact ⟨none, 0, 0, [], rfl, Nat.le_refl _, by omega, Row.nil_ _ _ _⟩
  · simp at hcs
    subst hcs
    subst hx
    simp only [if_true] at hz
    have hr : ∀ z ∈ zs, 0 ≤ z ∧ z < 4294967296 := by
      intro z hz
      have := hwz z hz
      simp only [Lit.wf, Bool.and_eq_true, decide_eq_true_eq] at this
      have h1 : IntKind.u32.min = 0 := rfl
      have h2 : IntKind.u32.max = 4294967295 := rfl
      omega
    have hcap : cap' ≤ 100000000000000 := by
      have h1 := hsz ((lits (H := H) IntKind.u32 (List.take len' zs)).length * 4 + (lits (H := H) IntKind.u32 (List.drop len' zs)).length * 4) (by
        simp [DataW.weights, Tryz.underlying22, Tryz.bytes50, Nat.add_mul])
      have h2 : reachBytes < 2 ^ 47 := reachBytes_lt
      simp [lits] at h1
      omega
    have hlen : (zs.take len').length = len' := by simp; omega
    refine ⟨some a, len', cap', (zs.take len').map Int.toNat, rfl, hl, hcap, by simp; omega, ?_, ?_⟩
    · intro i
      rw [dg_eq, List.getElem?_map]
      cases hq : (zs.take len')[i]? with
      | none => simp
      | some z =>
        have hmem : z ∈ zs := List.mem_of_mem_take (List.mem_of_getElem? hq)
        have := hr z hmem
        simp; omega
    · intro hn
      obtain ⟨b, off, spot⟩ := a
      have hspot : spot = none := by simpa [Addr.add] using World.cell?_spot (hcell 0 (by omega))
      subst hspot
      have hbW : b < W.heap.size := hlt (.cell b off) (MemPlace.mem_row.2 ⟨0, by omega, by simp⟩)
      refine ⟨b, off, rfl, Nat.zero_le _, hbW, fun j hj => ?_⟩
      rw [← add_plain, hcell j (by omega), dg_map zs len' j (by omega)]
      have hj2 : j < zs.length := by omega
      have : zs.getD j 0 = zs[j] := by simp [List.getD, hj2]
      rw [this]
      exact (hr _ (List.getElem_mem hj2)).1

set_option maxRecDepth 100000 in
theorem open_rat {H : Type} {enc : TypeId × Value → H} {W : World} {v : Value} {d : DataW H} {p : List MemPlace} (h0 : DataW.Trod enc Tryz.prog W 0 (fun _ => true) true 24 v d p)
    {base : Nat} (hval : Value.okWide Tryz.prog W .any base 24 v) (hlt : ∀ x ∈ p, x.block < W.heap.size) (hsz : ∀ n ∈ d.weights Tryz.prog 24, n ≤ reachBytes) :
    ∃ rv : Rv, v = .agg #[.bool rv.s, .slice rv.A rv.n rv.c, .slice rv.B rv.m rv.d] ∧ rv.n ≤ rv.c ∧ rv.m ≤ rv.d ∧ rv.n ≤ 100000000000000 ∧ rv.m ≤ 100000000000000 ∧ ∃ a b, Row W 0 rv.A rv.n a ∧ Row W 0 rv.B rv.m b := by
  obtain ⟨v0, v1, v2, y0, y1, y2, n, rfl, rfl, rfl, t0, t1, t2⟩ := open_agg3 Tryz.underlying24 (by kernel_rfl) Tryz.cells24 hval h0
  obtain ⟨s, hs, _⟩ := DataW.trod_bool Tryz.underlying4 t0
  simp at hs
  subst hs
  have hw : ∀ k, k ∈ y1.1.weights Tryz.prog 22 ∨ k ∈ y2.1.weights Tryz.prog 22 → k ≤ reachBytes := by
    intro k hk
    refine hsz k ?_
    simp only [DataW.weights, Tryz.underlying24, DataW.weightsEach, List.map, List.mem_append]
    rcases hk with h | h
    · exact .inr (.inl h)
    · exact .inr (.inr (.inl h))
  obtain ⟨A, n1, c1, a, rfl, e1, e2, ra⟩ := open_limbs t1 (fun x hx => hlt x (by simp [hx])) (fun k hk => hw k (.inl hk))
  obtain ⟨B, m1, d1, b, rfl, g1, g2, rb⟩ := open_limbs t2 (fun x hx => hlt x (by simp [hx])) (fun k hk => hw k (.inr hk))
  exact ⟨⟨s, A, n1, c1, B, m1, d1⟩, rfl, e1, g1, by show n1 ≤ _; omega, by show m1 ≤ _; omega, a, b, ra, rb⟩
end Go.Proofs.YtcmomoalohibiaaGreatDoor

namespace Go.Proofs.YtcmomoalohibiaaGreatDoor
set_option maxRecDepth 20000
open Go.ChangeShapes Go.WideShapes Go.ChangeAt Go.RowKit

theorem handed_both {H : Type} {enc : TypeId × Value → H} {a : Assume} {C : Checked} {os : Os} {f : FuncId} {fn : Func} {s : ChangeSpec} {conds : List PathCond} {apart fresh handsOn again : Bool} {X : World → Array Value → Prop}
    (hX : ∀ (w w' : World) (args : Array Value), w.heap = w'.heap → X w args → X w' args)
    (own : ownKnob C.prog.godebug = none) (started : os.Started) (noInit : C.prog.inits.idxOf? f = none) (hfn : C.prog.funcs[f]? = some fn)
    (witness : ∃ (w : World) (tape : Tape) (i : Input), w.os = os ∧ (w.forCall tape i).Shaped C.prog ∧ i.vars = [] ∧ Input.okWide C.prog (w.forCall tape i) .any w.heap.size f i ∧
      ((s.pre enc C.prog fn conds apart (w.forCall tape i).memory i.args ∧ X (w.forCall tape i).memory i.args) ∧ sizedMet enc C.prog fn (OpenSpec.ofChange s) apart (w.forCall tape i).memory i.args) ∧ a.holds C.prog (lone (Frame.enter C.prog f i.args .normal) [] (w.forCall tape i)))
    (contract : ∀ (W : World) (base : Nat) (args : Array Value) (ds gs : List (DataW H)) (before : List MemPlace),
      (∀ (j : Nat) t v, fn.params[j]? = some t → args[j]? = some v → Value.okWide C.prog W .any base t v) →
      DataW.Whole enc C.prog fn.params.toList s.vars apart W args.toList ds gs before →
      conds.all (PathCond.test C.prog ⟨fn.params.toList, ds, s.plain.varTypes C.prog, gs⟩) = true →
      (DataW.weightsEach C.prog (fn.params.toList ++ s.plain.varTypes C.prog) (ds ++ gs)).all (· ≤ reachBytes) = true → W.ShapedOpen C.prog → X W args →
      Calls C.prog f args W fun e W' => ∃ v, e = .returned v ∧ s.post enc C.prog fn apart fresh handsOn again W args v W') :
    ReturnsInHanded a C os f .any (fun w args => (s.pre enc C.prog fn conds apart w args ∧ X w args) ∧ sizedMet enc C.prog fn (OpenSpec.ofChange s) apart w args) (s.post enc C.prog fn apart fresh handsOn again) := by
  refine returnsInHanded_of_calls own started noInit witness ?_
  intro w tape i _ hsh _ hok hpre _
  obtain ⟨_, _, _, fn', hfn', _, _, _, _, hval⟩ := hok
  obtain rfl : fn' = fn := Option.some.inj (hfn'.symm.trans hfn)
  obtain ⟨⟨⟨ds, gs, before, hw, hc⟩, hx⟩, hz⟩ := hpre
  refine (contract (w.forCall tape i) w.heap.size i.args ds gs before hval (DataW.Whole.of_heap (w' := w.forCall tape i) (by rfl) hw) hc (hz.weights hw) hsh (hX _ _ _ (by rfl) hx)).mono fun e W' ⟨v, he, hp⟩ => ?_
  subst he
  exact ChangeSpec.post_blind hp

theorem gTen : Tryz.prog.globalNamed "internal/strconv.uint64pow10" = some 2 := by kernel_rfl
theorem gTenType : (Tryz.prog.globals[2]?).map (·.type) = some 152 := by kernel_rfl
theorem cellsU64 : Tryz.prog.cellsOf 78 = 1 := by kernel_rfl
theorem cellsTen : Tryz.prog.cellsOf 152 = 20 := by kernel_rfl
theorem tenData : (Rows.laid_internal_strconv_uint64pow10 : DataW Unit) = Lib.tabData .u64 Lib.pow10Tab := by kernel_rfl
/-- The table stands third on every card's list. -/
theorem tb_of_laid {W : World} {x y : String × DataW Unit} {rest : List (String × DataW Unit)} (h : laidMet Tryz.prog (x :: y :: ("internal/strconv.uint64pow10", Rows.laid_internal_strconv_uint64pow10) :: rest) W) : Tb W := by
  have h2 := laidMet.tail (laidMet.tail h)
  rw [tenData] at h2
  exact Lib.tabIs_of_head gTen gTenType Tryz.underlying152 Tryz.underlying78 cellsU64 cellsTen h2
end Go.Proofs.YtcmomoalohibiaaGreatDoor

namespace Go.Proofs.YtcmomoalohibiaaGreatDoor
set_option maxRecDepth 20000
open Go.RowKit
theorem mx_of_shaped {W : World} (h : W.ShapedOpen Tryz.prog) : Mx W := Tryz.laysM145.s1_3 W h
end Go.Proofs.YtcmomoalohibiaaGreatDoor
