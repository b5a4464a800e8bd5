/-
  One page is passed over.
-/
import Derived.Test.YtaifgehmlfjljaaPgE
namespace Go.Proofs.Ytaifgehmlfjljaa
set_option maxRecDepth 20000
open Go.RowKit Go.Maps Go.WideMaps

def itsK : List SwI := [⟨(0, ⟨#[115]⟩, false), by decide⟩]
def pgK : List (ByteArray × ByteArray) := [(⟨#[97]⟩, ⟨#[]⟩), (⟨#[98]⟩, ⟨#[115]⟩), (⟨#[99]⟩, ⟨#[]⟩)]
def fvK (w : World) : Fv := ⟨some ⟨w.heap.size, 0, none⟩, 1, 1, none, 0, 0, some ⟨w.heap.size + 1, 0, none⟩, 3, 3, none, 0, 0, none, 0, 0, none, 0, 0⟩
theorem cell_at {w : World} {b : Nat} {cs : Array Value} {t : TypeId} (h : w.heap[b]? = some (.cells cs t (0, 0))) (i : Nat) : w.cell? ⟨b, i, none⟩ = cs[i]? := by
  simp [World.cell?, h]
theorem frmK (w : World) : Frm ((w.alloc (.cells #[.string ⟨#[115]⟩, .bool false] 68)).alloc (.cells #[.string ⟨#[97]⟩, .string ⟨#[]⟩, .string ⟨#[98]⟩, .string ⟨#[115]⟩, .string ⟨#[99]⟩, .string ⟨#[]⟩] 66)) (fvK w) itsK pgK := by
  have h1 : ((w.alloc (.cells #[.string ⟨#[115]⟩, .bool false] 68)).alloc (.cells #[.string ⟨#[97]⟩, .string ⟨#[]⟩, .string ⟨#[98]⟩, .string ⟨#[115]⟩, .string ⟨#[99]⟩, .string ⟨#[]⟩] 66)).heap[w.heap.size]? = some (.cells #[.string ⟨#[115]⟩, .bool false] 68 (0, 0)) := (Below.heap_alloc _ _ _ (by simp)).trans (heap_alloc_new w _)
  have h2 : ((w.alloc (.cells #[.string ⟨#[115]⟩, .bool false] 68)).alloc (.cells #[.string ⟨#[97]⟩, .string ⟨#[]⟩, .string ⟨#[98]⟩, .string ⟨#[115]⟩, .string ⟨#[99]⟩, .string ⟨#[]⟩] 66)).heap[w.heap.size + 1]? = some (.cells #[.string ⟨#[97]⟩, .string ⟨#[]⟩, .string ⟨#[98]⟩, .string ⟨#[115]⟩, .string ⟨#[99]⟩, .string ⟨#[]⟩] 66 (0, 0)) := by
    have := heap_alloc_new (w.alloc (.cells #[.string ⟨#[115]⟩, .bool false] 68)) (.cells #[.string ⟨#[97]⟩, .string ⟨#[]⟩, .string ⟨#[98]⟩, .string ⟨#[115]⟩, .string ⟨#[99]⟩, .string ⟨#[]⟩] 66)
    rwa [World.size_alloc] at this
  refine ⟨⟨rfl, fun _ => ⟨w.heap.size, 0, rfl, by simp; omega, fun j x hj => ?_⟩⟩, ⟨rfl, fun x hx => ?_, fun _ => ⟨w.heap.size + 1, 0, rfl, by simp, fun j x hj => ?_⟩⟩, by simp [fvK], by simp [fvK]⟩
  · match j, hj with
    | 0, hj =>
      injection hj with hj; subst hj
      exact ⟨rfl, by rw [cell_at h1]; rfl, by rw [cell_at h1]; rfl⟩
    | j + 1, hj => simp [itsK] at hj
  · simp only [pgK, List.mem_cons, List.not_mem_nil, or_false] at hx
    rcases hx with rfl | rfl | rfl <;> exact ⟨by decide, by decide⟩
  · match j, hj with
    | 0, hj => injection hj with hj; subst hj; exact ⟨by rw [cell_at h2]; rfl, by rw [cell_at h2]; rfl⟩
    | 1, hj => injection hj with hj; subst hj; exact ⟨by rw [cell_at h2]; rfl, by rw [cell_at h2]; rfl⟩
    | 2, hj => injection hj with hj; subst hj; exact ⟨by rw [cell_at h2]; rfl, by rw [cell_at h2]; rfl⟩
    | j + 3, hj => simp [pgK] at hj
theorem blsK (w : World) (b : Bool) : Bls (w.alloc (.cells #[.bool b] 4)) (some ⟨w.heap.size, 0, none⟩) 1 [b] :=
  ⟨rfl, fun _ => ⟨w.heap.size, 0, rfl, by simp, fun j x hj => by
    match j, hj with
    | 0, hj => injection hj with hj; subst hj; rw [cell_at (heap_alloc_new w _)]; rfl
    | j + 1, hj => simp at hj⟩⟩
theorem relK (b : Bool) : (pgK.map fun x => relv itsK [b] x.2) = [true, b, true] := by cases b <;> decide +kernel
theorem nxK0 {e : Ending} (h : NxPost [true, false, true] 0 e) : e = .returned (.tuple #[.int .i64 2, .bool true]) := by
  rcases h with ⟨i, rfl, ⟨h1, h2⟩, h3⟩ | ⟨_, h⟩
  · match i with
    | 0 => simp at h2
    | 1 => simp at h1
    | 2 => rfl
    | i + 3 => simp at h1
  · exact absurd ⟨rfl, by decide⟩ (h 2)
theorem nxK1 {e : Ending} (h : NxPost [true, true, true] 0 e) : e = .returned (.tuple #[.int .i64 1, .bool true]) := by
  rcases h with ⟨i, rfl, ⟨h1, h2⟩, h3⟩ | ⟨_, h⟩
  · match i with
    | 0 => simp at h2
    | 1 => rfl
    | i + 2 => exact absurd ⟨rfl, by decide⟩ (h3 1 (by omega))
  · exact absurd ⟨rfl, by decide⟩ (h 1)
set_option maxHeartbeats 6400000 in
theorem knownP_c (w : World) : Calls Try.prog 30 #[] w fun e w' => e = .returned (.bool true) ∧ Below w.heap.size w w' := by
  have hsz : ((w.alloc (.cells #[.string ⟨#[115]⟩, .bool false] 68)).alloc (.cells #[.string ⟨#[97]⟩, .string ⟨#[]⟩, .string ⟨#[98]⟩, .string ⟨#[115]⟩, .string ⟨#[99]⟩, .string ⟨#[]⟩] 66)).heap.size = w.heap.size + 2 := by simp
  have hb0 : Below w.heap.size w ((w.alloc (.cells #[.string ⟨#[115]⟩, .bool false] 68)).alloc (.cells #[.string ⟨#[97]⟩, .string ⟨#[]⟩, .string ⟨#[98]⟩, .string ⟨#[115]⟩, .string ⟨#[99]⟩, .string ⟨#[]⟩] 66)) := ((Below.refl _ _).alloc (Nat.le_refl _) _).alloc (by simp) _
  have hF := frmK w
  have HK : Hid (Frm ((w.alloc (.cells #[.string ⟨#[115]⟩, .bool false] 68)).alloc (.cells #[.string ⟨#[97]⟩, .string ⟨#[]⟩, .string ⟨#[98]⟩, .string ⟨#[115]⟩, .string ⟨#[99]⟩, .string ⟨#[]⟩] 66)) (fvK w) itsK pgK ∧ Below w.heap.size w ((w.alloc (.cells #[.string ⟨#[115]⟩, .bool false] 68)).alloc (.cells #[.string ⟨#[97]⟩, .string ⟨#[]⟩, .string ⟨#[98]⟩, .string ⟨#[115]⟩, .string ⟨#[99]⟩, .string ⟨#[]⟩] 66)) ∧ ((w.alloc (.cells #[.string ⟨#[115]⟩, .bool false] 68)).alloc (.cells #[.string ⟨#[97]⟩, .string ⟨#[]⟩, .string ⟨#[98]⟩, .string ⟨#[115]⟩, .string ⟨#[99]⟩, .string ⟨#[]⟩] 66)).heap.size = w.heap.size + 2) := ⟨hF, hb0, hsz⟩
  clear hF hb0 hsz
  go_enter Try.func30, Try.ntmps30
  go_wp2_with fail
  obtain ⟨W3, hW3⟩ : ∃ W3, ((w.alloc (.cells #[.string ⟨#[115]⟩, .bool false] 68)).alloc (.cells #[.string ⟨#[97]⟩, .string ⟨#[]⟩, .string ⟨#[98]⟩, .string ⟨#[115]⟩, .string ⟨#[99]⟩, .string ⟨#[]⟩] 66)).alloc (.cells #[.slice (some ⟨w.heap.size, 0, none⟩) 1 1, .slice none 0 0, .slice (some ⟨w.heap.size + 1, 0, none⟩) 3 3, .slice none 0 0, .slice none 0 0, .slice none 0 0] 44) = W3 := ⟨_, rfl⟩
  have H3 : Hid (Frm W3 (fvK w) itsK pgK ∧ Below w.heap.size w W3 ∧ W3.heap.size = w.heap.size + 1 + 1 + 1 ∧ F6 W3 (w.heap.size + 1 + 1) (fvK w)) := by
    rw [← hW3]
    exact ⟨HK.out.1.below (below_alloc _ _), HK.out.2.1.alloc HK.out.2.1.size _, by simp, F6.newAt (fvK w) (by simp)⟩
  rw [hW3]
  clear hW3 HK
  have hbl : Bls (W3.alloc (.cells #[.bool false] 4)) (some ⟨w.heap.size + 1 + 1 + 1, 0, none⟩) 1 [false] := by
    have := blsK W3 false
    rw [H3.out.2.2.1] at this; exact this
  refine (Next_c (fvK w) itsK pgK (some ⟨w.heap.size + 1 + 1 + 1, 0, none⟩) 1 1 [false] 0 _ (H3.out.1.below (below_alloc _ _)) hbl (by omega)).mono ?_
  rintro e w4 ⟨hN, hb⟩
  rw [relK] at hN
  obtain rfl := nxK0 hN
  have hB3 : Below W3.heap.size W3 w4 := (below_alloc W3 _).trans (hb.mono (by simp))
  have H4 : Hid (Frm w4 (fvK w) itsK pgK ∧ Below w.heap.size w w4) := ⟨H3.out.1.below hB3, H3.out.2.1.trans (hB3.mono H3.out.2.1.size)⟩
  obtain ⟨a0, a1, a2, a3, a4, a5⟩ := (H3.out.2.2.2.below hB3).facts
  dsimp only [fvK] at a0 a1 a2 a3 a4 a5
  clear hN hb hB3 hbl H3
  go_wp2_with fail
  refine (Next_c (fvK w) itsK pgK (some ⟨w4.heap.size, 0, none⟩) 1 1 [true] 0 _ (H4.out.1.below (below_alloc _ _)) (blsK w4 true) (by omega)).mono ?_
  rintro e w5 ⟨hN, hb⟩
  rw [relK] at hN
  obtain rfl := nxK1 hN
  have H5 := Lib.hid ((H4.out.2.alloc H4.out.2.size _).trans (hb.mono (by have := H4.out.2.size; simp; omega)))
  clear hN hb
  go_wp2
  go_ret
  exact ⟨rfl, H5.out⟩
end Go.Proofs.Ytaifgehmlfjljaa
