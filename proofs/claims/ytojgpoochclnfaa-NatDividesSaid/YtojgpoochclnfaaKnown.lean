/-
  The known carry, as every law asks it.
-/
import Derived.Test.YtojgpoochclnfaaNMul
namespace Go.Proofs.Ytojgpoochclnfaa
open Go.RowKit

theorem Row.two {w : World} {x y : Nat} {u v : Int} {lo : Nat} (hu : u = (x : Int)) (hv : v = (y : Int)) (hx : x < 4294967296) (hy : y < 4294967296) (hlo : lo ≤ w.heap.size) : Row (w.alloc (.cells #[.int .u32 u, .int .u32 v] 41)) lo (some ⟨w.heap.size, 0, none⟩) 2 [x, y] := by
  subst hu hv
  refine ⟨rfl, L32.cons hx (L32.cons hy L32.nil), fun _ => ⟨w.heap.size, 0, rfl, hlo, by simp, fun j hj => ?_⟩⟩
  have : j = 0 ∨ j = 1 := by omega
  rcases this with rfl | rfl
  · rw [World.cell?_alloc_at _ _ _ _ rfl]; rfl
  · rw [World.cell?_alloc_at _ _ _ _ rfl]; rfl
theorem lim_zero_of {n : Nat} (h : n = 0) : lim n = [] := by subst h; exact lim_zero
theorem known_num : lim (val [4294967295] * val [2]) = [4294967294, 1] := by
  have e : val [4294967295] * val [2] = 8589934590 := by simp [val]
  rw [e, lim_pos (by omega), lim_pos (by omega), lim_zero_of (by omega)]
set_option maxHeartbeats 400000 in
theorem known_any (w : World) : Calls Try.prog 20 #[] w fun e w' => e = .returned (.bool true) ∧ Below w.heap.size w w' := by
  go_enter Try.func20, Try.ntmps20
  go_wp2_with fail
  have h1 : Row (w.alloc (.cells #[.int .u32 4294967295] 41)) 0 (some ⟨w.heap.size, 0, none⟩) 1 [4294967295] := Row.one (by rfl) (by omega) (Nat.zero_le _)
  have h2 : Row ((w.alloc (.cells #[.int .u32 4294967295] 41)).alloc (.cells #[.int .u32 2] 41)) 0 (some ⟨w.heap.size + 1, 0, none⟩) 1 [2] := by
    have := Row.one (w := w.alloc (.cells #[.int .u32 4294967295] 41)) (x := 2) (v := 2) (lo := 0) (by rfl) (by omega) (Nat.zero_le _)
    simpa using this
  refine (Mul_any _ _ 1 1 1 1 _ _ _ (by omega) (by omega) (Nat.le_refl _) (Nat.le_refl _) (h1.alloc _) h2).mono ?_
  rintro e w1 ⟨A2, c2, rfl, ho, hb⟩
  rw [known_num] at ho ⊢
  have hb0 : Below w.heap.size w w1 := (((Below.refl _ _).alloc (Nat.le_refl _) _).alloc (by simp) _).trans (hb.mono (by simp; omega))
  have hz := hb.size
  have hr := ho.row.lower (Nat.zero_le _)
  clear ho hb h1 h2
  go_wp2_with fail
  refine (limbs_yes _ _ 2 _ _ [4294967294, 1] _ (by omega) (hr.alloc _) (Row.two rfl rfl (by omega) (by omega) (Nat.zero_le _))).mono ?_
  rintro e w2 ⟨rfl, q, rfl⟩
  go_wp2
  go_ret
  exact ⟨rfl, hb0.trans ((((Below.refl _ _).alloc (Nat.le_refl _) _)).mono hb0.size |>.trans ⟨rfl, rfl, rfl, Nat.le_refl _, fun _ _ => rfl⟩)⟩
end Go.Proofs.Ytojgpoochclnfaa
