/-
  The document's Parse and Print of naturals.
-/
import Derived.Test.YtcmomoalohibiaaDoorTxtA
import Derived.Sort.AtCall
import Derived.Deep.RegionHeld3
import Derived.Lib.ConvBytes
namespace Go.Proofs.YtcmomoalohibiaaDoor
set_option maxRecDepth 20000
open Go.RowKit

/-- A row of one limb, of a literal of the call's own. -/
theorem Row.lit1 (w : World) (x : Nat) (v : Int) (hv : v = (x : Int)) (hx : x < 4294967296) : Row (w.alloc (.cells #[.int .u32 v] 40)) 0 (some ⟨w.heap.size, 0, none⟩) 1 [x] := Row.one hv hx (Nat.zero_le _)
theorem Row.lit2 (w : World) (o : Obj) (x : Nat) (v : Int) (hv : v = (x : Int)) (hx : x < 4294967296) : Row ((w.alloc o).alloc (.cells #[.int .u32 v] 40)) 0 (some ⟨w.heap.size + 1, 0, none⟩) 1 [x] := by
  have := Row.lit1 (w.alloc o) x v hv hx
  simpa using this
theorem Below.undrew' {w w' : World} (h : Below w.drew.heap.size w.drew w') : Below w.heap.size w w' := ⟨h.os, h.tape, h.output, h.size, h.block⟩
theorem Bd.ofL {x p : Nat} (h : (lim x).length ≤ p) : Bd x p := by
  have h6 := val_lt (L32_lim x)
  rw [val_lim] at h6
  exact Nat.lt_of_lt_of_le h6 (Nat.pow_le_pow_right (by omega) h)
theorem val_one (x : Nat) : val [x] = x := by simp [val]

/-- What the document's Parse answers of a text of the right length. -/
def ParseP (l : List UInt8) (w : World) (e : Ending) (w' : World) : Prop :=
  ∃ v, e = .returned v ∧ Below w.heap.size w w' ∧ (Dig l → ∃ A c, v = .tuple #[.slice A (lim (nu l)).length c, .bool true] ∧ Own w' w.heap.size A c (lim (nu l)).length (lim (nu l))) ∧ (¬ Dig l → v = .tuple #[.slice none 0 0, .bool false])

set_option maxHeartbeats 3200000 in
theorem rParse_mid (s : ByteArray) (w : World) (h1 : 0 < s.size) (h2 : s.size ≤ 400) :
    Calls Tryd.prog 7 #[.string s] w (ParseP s.data.toList w) := by
  have HT : Hid (Dig (s.data.toList.take 0)) := Dig.nil
  have HO0 : Hid (Own w w.heap.size none 0 (lim (nu (s.data.toList.take 0))).length (lim (nu (s.data.toList.take 0)))) := by
    have e : lim (nu (s.data.toList.take 0)) = [] := by rw [List.take_zero, nu_nil, lim_zero]
    show Own _ _ _ _ _ _
    rw [e]; exact Own.nil_ _ _
  have HL0 : Hid ((lim (nu (s.data.toList.take 0))).length = 0) := by
    show _ = _
    rw [List.take_zero, nu_nil, lim_zero]; rfl
  go_enter Tryd.func7, Tryd.ntmps7
  go_wp2
  go_loopw [4, 5] (fun nv iv wr => ∃ (k : Nat) (A : Option Addr) (c : Nat), k ≤ s.size ∧ iv = .int .i64 k ∧ nv = .slice A (lim (nu (s.data.toList.take k))).length c ∧ Hid (Dig (s.data.toList.take k)) ∧ Hid (Own wr w.heap.size A c (lim (nu (s.data.toList.take k))).length (lim (nu (s.data.toList.take k)))) ∧ Hid (Below w.heap.size w wr)) (fun _ iv _ => s.size - (intOf iv).toNat)
  case atStart => exact ⟨0, none, 0, Nat.zero_le _, rfl, by rw [HL0.out], HT, HO0, Below.refl _ _⟩
  case round =>
    obtain ⟨k, A, c, hk, rfl, rfl, HK, HO, HB⟩ := hrel
    by_cases hlt : k < s.size
    · by_cases hdig : 48 ≤ s[k].toNat ∧ s[k].toNat ≤ 57
      rotate_left
      · have HF : Hid (∀ wr, Below w.heap.size w wr → ParseP s.data.toList w (.returned (.tuple #[.slice none 0 0, .bool false])) wr) := fun wr hb => ⟨_, rfl, hb, fun hd => absurd (hd.at k hlt) hdig, fun _ => rfl⟩
        clear HT HO HO0 HL0 HK
        by_cases d1 : 48 ≤ s[k].toNat
        · have d2 : 57 < s[k].toNat := by omega
          clear hdig
          go_wp2
          go_ret2
          exact HF.out _ HB.out
        · clear hdig
          go_wp2
          go_ret2
          exact HF.out _ HB.out
      obtain ⟨d1, d2⟩ := hdig
      have hx := nu_len' HK.out (by rw [List.length_take]; omega)
      have HK2 : Hid (Dig (s.data.toList.take (k + 1))) := by
        show Dig _
        rw [take_byte s k hlt]; exact HK.out.app (Dig.one d1 d2)
      have E := Lib.hid (nu_take_snoc s k hlt)
      have hsz := HB.out.size
      obtain ⟨u, hu⟩ : ∃ u : Nat, s[k].toNat = 48 + u := ⟨s[k].toNat - 48, by omega⟩
      have hu9 : u ≤ 9 := by omega
      have E2 : Hid (nu (s.data.toList.take (k + 1)) = nu (s.data.toList.take k) * 10 + u) := by
        show _ = _
        rw [E.out, hu, Nat.mul_comm]; congr 1; omega
      have W1 : IntKind.u8.wrap ((s[k].toNat : Int) - 48) = (u : Int) := by rw [IntKind.wrap_u8]; omega
      have W2 : IntKind.u32.wrap (u : Int) = (u : Int) := by rw [IntKind.wrap_u32]; omega
      have i0 : (0 : Int) ≤ (k : Int) := by omega
      have i1 : (k : Int) < (s.size : Int) := by omega
      clear E HL0 HO0 hu HK HT
      generalize nu (s.data.toList.take k) = x at *
      have HR := Lib.hid (HO.out.row.lower (Nat.zero_le _))
      clear HO
      have HBE := HB.out
      clear HB
      go_wp2_with fail
      have hx10 : (10 : Nat) < 4294967296 := by omega
      have hv10 : Hid ((10 : Int) = ((10 : Nat) : Int)) := rfl
      have hxu : u < 4294967296 := by omega
      have hl1 : (lim x).length ≤ 100000 := by omega
      have hl2 : (lim (x * 10)).length ≤ 100000 := by
        have h1 : Bd x 50 := Bd.ofL hx
        have h2 : Bd 10 1 := by show (10 : Nat) < 4294967296 ^ 1; omega
        have := (h1.mul h2).len
        omega
      have h11 : 1 ≤ 100000 := by omega
      have hsz0 := HBE.size
      go_region_held3 (fun _ => True) (trivial)
        (first
        | (go_at_call 20
           first
           | (with_reducible refine (rMul_v x 10 _ _ _ 1 _ _ _ [10] _ (val_lim _) (val_one _) hl1 h11 (HR.out.alloc _).drew (Row.lit1 _ 10 10 hv10.out hx10).drew).mono ?_
              rintro e w1 ⟨A2, c2, rfl, ho, hb⟩
              replace hb := Below.undrew' hb
              have hbW := (HBE.alloc hsz0 (.cells #[.int .u32 10] 40)).trans (hb.mono (by simp; omega)))
           | (with_reducible refine (rMul_v x 10 _ _ _ 1 _ _ _ [10] _ (val_lim _) (val_one _) hl1 h11 ((HR.out.alloc _).alloc _).drew (Row.lit2 _ _ 10 10 hv10.out hx10).drew).mono ?_
              rintro e w1 ⟨A2, c2, rfl, ho, hb⟩
              replace hb := Below.undrew' hb
              have hD := ((Row.lit1 wr u _ rfl hxu).alloc (.cells #[.int .u32 10] 40)).below hb
              have hbW := ((HBE.alloc hsz0 (.cells #[.int .u32 (u : Int)] 40)).alloc (by simp; omega) (.cells #[.int .u32 10] 40)).trans (hb.mono (by simp; omega)))
           | (with_reducible refine (rMul_v x 10 _ _ _ 1 _ _ _ [10] _ (val_lim _) (val_one _) hl1 h11 ((HR.out.alloc _).alloc _).drew ((Row.lit1 _ 10 10 hv10.out hx10).alloc _).drew).mono ?_
              rintro e w1 ⟨A2, c2, rfl, ho, hb⟩
              replace hb := Below.undrew' hb
              have hD := (Row.lit2 wr (.cells #[.int .u32 10] 40) u _ rfl hxu).below hb
              have hbW := ((HBE.alloc hsz0 (.cells #[.int .u32 10] 40)).alloc (by simp; omega) (.cells #[.int .u32 (u : Int)] 40)).trans (hb.mono (by simp; omega)))
           have hr1 := ho.row.lower (Nat.zero_le _)
           have hsz1 := hbW.size
           clear ho hb)
        | (go_at_call 19
           first
           | (with_reducible refine (rAdd_v (x * 10) u _ _ _ 1 _ _ _ [u] _ (val_lim _) (val_one _) hl2 h11 (hr1.alloc _) (Row.lit1 _ u _ rfl hxu)).mono ?_
              rintro e w2 ⟨A3, c3, rfl, ho, hb⟩
              have ho2 := ho.lower (lo' := w.heap.size) (by simp; omega)
              have hb2 := (hbW.alloc hsz1 (.cells #[.int .u32 (u : Int)] 40)).trans (hb.mono (by simp; omega)))
           | (with_reducible refine (rAdd_v (x * 10) u _ _ _ 1 _ _ _ [u] _ (val_lim _) (val_one _) hl2 h11 hr1 hD).mono ?_
              rintro e w2 ⟨A3, c3, rfl, ho, hb⟩
              have ho2 := ho.lower (lo' := w.heap.size) hsz1
              have hb2 := hbW.trans (hb.mono hsz1))
           clear ho hb))
      all_goals
        have HO2 := Lib.hid ho2
        have HB2 := Lib.hid hb2
        clear ho2 hb2
        go_wp2
        go_roundw
        case rel => exact ⟨k + 1, A3, c3, by omega, by go_num, by rw [E2.out], HK2, by rw [E2.out]; exact HO2, HB2⟩
        case measure => simp [intOf]; omega
    · have e : Hid (s.data.toList.take k = s.data.toList) := by
        show _ = _
        exact List.take_of_length_le (by rw [← Lib.size_eq]; omega)
      rw [e.out] at HO HK
      have HF : Hid (∀ wr, Own wr w.heap.size A c (lim (nu s.data.toList)).length (lim (nu s.data.toList)) → Below w.heap.size w wr → ParseP s.data.toList w (.returned (.tuple #[.slice A (lim (nu s.data.toList)).length c, .bool true])) wr) := fun wr ho hb => ⟨_, rfl, hb, fun _ => ⟨A, c, rfl, ho⟩, fun hn => absurd HK.out hn⟩
      go_wp2
      go_ret2
      rw [e.out]
      exact HF.out _ HO.out HB.out

theorem rParse_yes (s : ByteArray) (w : World) (h : IsNum s.data.toList) :
    Calls Tryd.prog 7 #[.string s] w fun e w' => ∃ A c, e = .returned (.tuple #[.slice A (lim (nu s.data.toList)).length c, .bool true]) ∧ Own w' w.heap.size A c (lim (nu s.data.toList)).length (lim (nu s.data.toList)) ∧ Below w.heap.size w w' := by
  refine (rParse_mid s w (by rw [Lib.size_eq]; exact h.pos) (by rw [Lib.size_eq]; exact h.len)).mono ?_
  rintro e w' ⟨v, rfl, hb, hy, _⟩
  obtain ⟨A, c, rfl, ho⟩ := hy h.dig
  exact ⟨A, c, rfl, ho, hb⟩
set_option maxHeartbeats 400000 in
theorem rParse_no (s : ByteArray) (w : World) (hs : s.size ≤ 1000000000000000) (h : ¬ IsNum s.data.toList) :
    Calls Tryd.prog 7 #[.string s] w fun e w' => e = .returned (.tuple #[.slice none 0 0, .bool false]) ∧ Below w.heap.size w w' := by
  by_cases h1 : 0 < s.size
  · by_cases h2 : s.size ≤ 400
    · refine (rParse_mid s w h1 h2).mono ?_
      rintro e w' ⟨v, rfl, hb, _, hn⟩
      rw [hn fun hd => h ⟨by rw [← Lib.size_eq]; exact h1, by rw [← Lib.size_eq]; exact h2, hd⟩]
      exact ⟨rfl, hb⟩
    · clear h
      go_enter Tryd.func7, Tryd.ntmps7
      go_wp2
      go_ret2
      exact ⟨rfl, Below.refl _ _⟩
  · clear h
    go_enter Tryd.func7, Tryd.ntmps7
    go_wp2
    go_ret2
    exact ⟨rfl, Below.refl _ _⟩
end Go.Proofs.YtcmomoalohibiaaDoor
