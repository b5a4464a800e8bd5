/-
  nat's Parse: whether a text is digits; a digit put behind those of a row; digits as a row of limbs.
-/
import Derived.Test.YtcmomoalohibiaaDoorLawKit
import Derived.Test.YtcmomoalohibiaaDoorShiftNum
import Derived.Test.YtcmomoalohibiaaDoorDigs
namespace Go.Proofs.YtcmomoalohibiaaDoor
set_option maxRecDepth 20000
open Go.RowKit

/-- A text of digits, not too long. -/
structure IsNum (l : List UInt8) : Prop where
  pos : 0 < l.length
  len : l.length ≤ 400
  dig : Dig l

theorem byte_eq (s : ByteArray) (k : Nat) (h : k < s.size) : s.data.toList[k]? = some s[k] := by
  have h' : k < s.data.toList.length := by rw [← Lib.size_eq]; exact h
  rw [List.getElem?_eq_getElem h']; rfl
theorem Dig.at {s : ByteArray} (h : Dig s.data.toList) (k : Nat) (hk : k < s.size) : 48 ≤ s[k].toNat ∧ s[k].toNat ≤ 57 :=
  h _ (List.mem_of_getElem? (byte_eq s k hk))
theorem take_byte (s : ByteArray) (k : Nat) (h : k < s.size) : s.data.toList.take (k + 1) = s.data.toList.take k ++ [s[k]] := by
  rw [List.take_add_one, byte_eq s k h]; rfl

set_option maxHeartbeats 400000 in
theorem areDigits_yes (s : ByteArray) (w : World) (h : IsNum s.data.toList) :
    Calls Tryd.prog 17 #[.string s] w fun e w' => e = .returned (.bool true) ∧ w = w' := by
  have h1 : 0 < s.size := by rw [Lib.size_eq]; exact h.pos
  have h2 : s.size ≤ 400 := by rw [Lib.size_eq]; exact h.len
  have HD := Lib.hid h.dig
  clear h
  have h3 : (((s.size : Nat) : Int) == 0) = false := by rw [beq_eq_false_iff_ne]; omega
  go_enter Tryd.func17, Tryd.ntmps17
  go_wp2
  go_loop [14] (fun i => ∃ k : Nat, k ≤ s.size ∧ i = .int .i64 k) (fun i => s.size - (intOf i).toNat)
  case atStart => exact ⟨0, Nat.zero_le _, rfl⟩
  case round =>
    obtain ⟨k, hk, rfl⟩ := hrel
    by_cases hlt : k < s.size
    · obtain ⟨d1, d2⟩ := HD.out.at k hlt
      go_wp2
      go_round
      case rel => exact ⟨k + 1, by omega, by go_num⟩
      case measure => simp [intOf]; omega
    · go_wp2
      go_ret
      exact ⟨rfl, rfl⟩

set_option maxHeartbeats 800000 in
theorem areDigits_no (s : ByteArray) (w : World) (hs : s.size ≤ 1000000000000000) (h : ¬ IsNum s.data.toList) :
    Calls Tryd.prog 17 #[.string s] w fun e w' => e = .returned (.bool false) ∧ w = w' := by
  by_cases h1 : s.size = 0
  · have h3 : (((s.size : Nat) : Int) == 0) = true := by rw [beq_iff_eq]; omega
    clear h h1 hs
    go_enter Tryd.func17, Tryd.ntmps17
    go_wp2
    go_ret
    exact ⟨rfl, rfl⟩
  · have h3 : (((s.size : Nat) : Int) == 0) = false := by rw [beq_eq_false_iff_ne]; omega
    by_cases h2 : 400 < s.size
    · clear h h1
      go_enter Tryd.func17, Tryd.ntmps17
      go_wp2
      go_ret
      exact ⟨rfl, rfl⟩
    · have HN : Hid (¬ Dig s.data.toList) := fun hd => h ⟨by rw [← Lib.size_eq]; omega, by rw [← Lib.size_eq]; omega, hd⟩
      clear h hs
      have HT : Hid (Dig (s.data.toList.take 0)) := Dig.nil
      go_enter Tryd.func17, Tryd.ntmps17
      go_wp2
      go_loop [14] (fun i => ∃ k : Nat, k ≤ s.size ∧ i = .int .i64 k ∧ Hid (Dig (s.data.toList.take k))) (fun i => s.size - (intOf i).toNat)
      case atStart => exact ⟨0, Nat.zero_le _, rfl, HT⟩
      case round =>
        obtain ⟨k, hk, rfl, HK⟩ := hrel
        have hlt : k < s.size := by
          rcases Nat.lt_or_ge k s.size with h | h
          · exact h
          · have := HK.out
            rw [List.take_of_length_le (by rw [← Lib.size_eq]; exact h)] at this
            exact absurd this HN.out
        have HT2 : Hid (48 ≤ s[k].toNat → s[k].toNat ≤ 57 → Dig (s.data.toList.take (k + 1))) := fun a b => by
          rw [take_byte s k hlt]; exact HK.out.app (Dig.one a b)
        by_cases d1 : 48 ≤ s[k].toNat
        · by_cases d2 : s[k].toNat ≤ 57
          · have HT3 := Lib.hid (HT2.out d1 d2)
            clear HT2 HT HK
            go_wp2
            go_round
            case rel => exact ⟨k + 1, by omega, by go_num, HT3⟩
            case measure => simp [intOf]; omega
          · clear HT2 HT HK
            go_wp2
            go_ret
            exact ⟨rfl, rfl⟩
        · clear HT2 HT HK
          go_wp2
          go_ret
          exact ⟨rfl, rfl⟩

/-- What the loop of timesTen keeps: k limbs are done. -/
structure TtAt (ws wr : World) (lo : Nat) (A : Option Addr) (c n : Nat) (l : List Nat) (d k cy : Nat) (L : List Nat) : Prop where
  own : Own wr lo A c n L
  rest : ∀ j, k ≤ j → dg L j = dg l j
  sum : S (fun i => dg L i) k + 4294967296 ^ k * cy = 10 * S (fun i => dg l i) k + d
  below : Below lo ws wr
theorem TtAt.step {ws wr : World} {lo g c n : Nat} {l : List Nat} {d k cy : Nat} {L : List Nat} (h : TtAt ws wr lo (some ⟨g, 0, none⟩) c n l d k cy L) (hk : k < n) (hg : lo ≤ g) (v : Int) (hv : v = (((cy + dg l k * 10) % 4294967296 : Nat) : Int)) :
    TtAt ws (wr.setCell ⟨g, k, none⟩ (.int .u32 v)) lo (some ⟨g, 0, none⟩) c n l d (k + 1) ((cy + dg l k * 10) / 4294967296) (L.set k ((cy + dg l k * 10) % 4294967296)) := by
  subst hv
  have hL := h.own.len
  refine ⟨h.own.set (by omega), fun j hj => ?_, ?_, h.below.setCell hg _⟩
  · rw [dg_set_ne _ _ _ _ (by omega)]; exact h.rest j (by omega)
  · have e1 : S (fun i => dg (L.set k ((cy + dg l k * 10) % 4294967296)) i) k = S (fun i => dg L i) k := S_congr fun i hi => dg_set_ne _ _ _ _ (by omega)
    rw [S, S, e1, dg_set_eq _ _ _ (by omega), Nat.pow_succ, Nat.mul_assoc, Nat.add_assoc, ← Nat.mul_add, Nat.mul_add 10, show (cy + dg l k * 10) % 4294967296 + 4294967296 * ((cy + dg l k * 10) / 4294967296) = cy + dg l k * 10 by omega, Nat.mul_add, ← Nat.add_assoc, h.sum]
    have : 10 * (4294967296 ^ k * dg l k) = 4294967296 ^ k * (dg l k * 10) := by rw [Nat.mul_left_comm, Nat.mul_comm 10 (dg l k)]
    rw [this]; omega
/-- The end without a carry. -/
theorem TtAt.done0 {ws wr : World} {lo : Nat} {A : Option Addr} {c n x d : Nat} {L : List Nat} (h : TtAt ws wr lo A c n (lim x) d n 0 L) (hn : n = (lim x).length) :
    n = (lim (10 * x + d)).length ∧ Own wr lo A c (lim (10 * x + d)).length (lim (10 * x + d)) := by
  have hL := h.own.len
  have h1 := h.sum
  rw [S_more _ _ (by omega), S_more _ _ (by omega), val_lim] at h1
  have hv : val L = 10 * x + d := by omega
  have h2 := h.own.lim
  rw [hv] at h2
  have h3 : (lim (10 * x + d)).length ≤ n := by rw [← hv, ← hL]; exact lim_len_le h.own.l32
  have h4 : (lim x).length ≤ (lim (10 * x + d)).length := lim_len_mono (by omega)
  exact ⟨by omega, h2⟩
/-- The end with one. -/
theorem TtAt.done1 {ws wr : World} {lo : Nat} {A : Option Addr} {c n x d cy : Nat} {L : List Nat} (h : TtAt ws wr lo A c n (lim x) d n cy L) (hn : n = (lim x).length) (h0 : 0 < cy) (hc : cy < 4294967296) :
    L ++ [cy] = lim (10 * x + d) := by
  have hL := h.own.len
  have h1 := h.sum
  rw [S_more _ _ (by omega), S_more _ _ (by omega), val_lim] at h1
  have hv : val (L ++ [cy]) = 10 * x + d := by rw [val_snoc, hL]; exact h1
  rw [← hv]
  refine (lim_val (h.own.l32.snoc hc) (.inr ?_)).symm
  have : dg (L ++ [cy]) ((L ++ [cy]).length - 1) = cy := by
    rw [dg_eq]; simp
  rw [this]; omega

theorem conv_u32_nat (x : Nat) : IntKind.u32.wrap (x : Int) = ((x % 4294967296 : Nat) : Int) := by rw [IntKind.wrap_u32]; omega

set_option maxHeartbeats 1600000 in
theorem timesTen_any (lo : Nat) (A : Option Addr) (n c x d : Nat) (w : World) (hnb : n ≤ 1000) (hn : n = (lim x).length) (hlo : lo ≤ w.heap.size) (hd : d ≤ 9) (ho : Own w lo A c n (lim x)) :
    Calls Tryd.prog 18 #[.slice A n c, .int .u8 (d : Int)] w fun e w' => ∃ A2 c2, e = .returned (.slice A2 (lim (10 * x + d)).length c2) ∧ Own w' lo A2 c2 (lim (10 * x + d)).length (lim (10 * x + d)) ∧ Below lo w w' := by
  have HST : Hid (TtAt w w lo A c n (lim x) d 0 d (lim x)) := ⟨ho, fun _ _ => rfl, by simp [S], Below.refl _ _⟩
  have HN := Lib.hid hn
  have hl32 := L32_lim x
  clear hn ho
  go_enter Tryd.func18, Tryd.ntmps18
  go_wp2
  go_loopw [5, 12] (fun cv iv wr => ∃ (k cy : Nat) (L : List Nat), k ≤ n ∧ cy ≤ 9 ∧ iv = .int .i64 k ∧ cv = .int .u64 cy ∧ Hid (TtAt w wr lo A c n (lim x) d k cy L)) (fun _ iv _ => n - (intOf iv).toNat)
  case atStart => exact ⟨0, d, _, by omega, hd, rfl, by first | rfl | go_num, HST⟩
  case round =>
    obtain ⟨k, cy, L, hk, hcy, rfl, rfl, HA⟩ := hrel
    by_cases hlt : k < n
    · obtain ⟨g, off, rfl, h7, h8, hc2⟩ := HA.out.own.row.mem (by omega)
      obtain ⟨g', e, h9, h10⟩ := HA.out.own.form (by omega)
      injection e with e
      injection e with e1 e2
      subst e1 e2
      have hcs := hc2 k hlt
      rw [Nat.zero_add, HA.out.rest k (Nat.le_refl _)] at hcs
      have hfs := HA.out.own.own.frozenAt k
      have hx := hl32 k
      have STEP := Lib.hid (HA.out.step hlt h7)
      clear hc2 HA HST
      generalize dg (lim x) k = u at *
      have hq : (cy + u * 10) / 4294967296 ≤ 9 := by omega
      go_wp2
      go_roundw
      case rel => exact ⟨k + 1, (cy + u * 10) / 4294967296, _, by omega, hq, by go_num, by go_num, STEP.out _ (by omega)⟩
      case measure => simp [intOf]; omega
    · have e : k = n := by omega
      subst e
      clear HST
      by_cases h0 : cy = 0
      · subst h0
        obtain ⟨e1, o1⟩ := HA.out.done0 HN.out
        have HE := Lib.hid e1
        have HO := Lib.hid o1
        have HB := Lib.hid HA.out.below
        clear e1 o1 HA
        go_wp2
        go_ret
        exact ⟨A, c, by rw [← HE.out]; rfl, HO.out, HB.out⟩
      · have h1 : 0 < cy := by omega
        have e1 := HA.out.done1 HN.out h1 (by omega)
        have hsz := HA.out.below.size
        have HE := Lib.hid e1
        have OWN := Lib.hid HA.out.own
        have HB := Lib.hid HA.out.below
        clear e1 HA h0
        go_wp2_with (at_builtin; refine wpl_append rfl _ _ rfl rfl rfl (OWN.out.alloc _) (Row.one (x := cy) (lo := 0) ?c1 ?c2 ?c3) ?c4 ?c5 ?_)
        case c1 => omega
        case c2 => omega
        case c3 => omega
        case c4 => omega
        case c5 => simp; omega
        intro A3 c3 w3 ho3 hg3
        rw [HE.out] at ho3
        have HO := Lib.hid ho3
        have HL := Lib.hid ho3.len
        have HB3 : Hid (Below lo w w3) := by
          refine HB.out.trans (((Below.refl _ _).alloc (by omega) _).grown hg3 (by simp; omega) ?_)
          intro q hq
          cases A with
          | none => cases hq
          | some ad =>
            have := OWN.out.own.lt ad.block rfl
            simp at hq; subst hq; exact this.1
        clear ho3 hg3
        go_wp2
        go_ret
        have HO2 := HO.out
        rw [← HL.out] at HO2
        exact ⟨A3, c3, by rw [HL.out]; rfl, HO2, HB3.out⟩

theorem nu_len' {m : List UInt8} (h : Dig m) (h2 : m.length ≤ 400) : (lim (nu m)).length ≤ 50 := by
  refine lim_len_lt ?_
  have h1 := nu_lt h
  obtain ⟨q, hq⟩ : ∃ q : Nat, q = 50 := ⟨_, rfl⟩
  rw [← hq]
  have h3 : 10 ^ m.length ≤ 10 ^ (8 * q) := Nat.pow_le_pow_right (by omega) (by omega)
  have h4 : 10 ^ (8 * q) ≤ 4294967296 ^ q := by
    rw [Nat.pow_mul]; exact Nat.pow_le_pow_left (by omega) _
  omega
theorem nu_len {l : List UInt8} (h : IsNum l) (k : Nat) : (lim (nu (l.take k))).length ≤ 50 :=
  nu_len' (h.dig.take k) (by rw [List.length_take]; have := h.len; omega)
theorem nu_take_snoc (s : ByteArray) (k : Nat) (h : k < s.size) : nu (s.data.toList.take (k + 1)) = 10 * nu (s.data.toList.take k) + (s[k].toNat - 48) := by
  rw [take_byte s k h, nu_snoc, Nat.mul_comm]

set_option maxHeartbeats 1600000 in
theorem Parse_yes (s : ByteArray) (w : World) (h : IsNum s.data.toList) :
    Calls Tryd.prog 6 #[.string s] w fun e w' => ∃ A c, e = .returned (.tuple #[.slice A (lim (nu s.data.toList)).length c, .bool true]) ∧ Own w' w.heap.size A c (lim (nu s.data.toList)).length (lim (nu s.data.toList)) ∧ Below w.heap.size w w' := by
  have HNUM := Lib.hid h
  have h2 : s.size ≤ 400 := by rw [Lib.size_eq]; exact h.len
  clear h
  have HO0 : Hid (Own w w.heap.size none 0 (lim (nu (s.data.toList.take 0))).length (lim (nu (s.data.toList.take 0)))) := by
    have e : lim (nu (s.data.toList.take 0)) = [] := by rw [List.take_zero, nu_nil, lim_zero]
    show Own _ _ _ _ _ _
    rw [e]; exact Own.nil_ _ _
  have HL0 : Hid ((lim (nu (s.data.toList.take 0))).length = 0) := by
    show _ = _
    rw [List.take_zero, nu_nil, lim_zero]; rfl
  go_enter Tryd.func6, Tryd.ntmps6
  go_wp2_with fail
  refine (areDigits_yes s _ HNUM.out).mono ?_
  rintro e w' ⟨rfl, rfl⟩
  go_wp2
  go_loopw [4, 11] (fun nv iv wr => ∃ (k : Nat) (A : Option Addr) (c : Nat), k ≤ s.size ∧ iv = .int .i64 k ∧ nv = .slice A (lim (nu (s.data.toList.take k))).length c ∧ Hid (Own wr w.heap.size A c (lim (nu (s.data.toList.take k))).length (lim (nu (s.data.toList.take k)))) ∧ Hid (Below w.heap.size w wr)) (fun _ iv _ => s.size - (intOf iv).toNat)
  case atStart => exact ⟨0, none, 0, Nat.zero_le _, rfl, by rw [HL0.out], HO0, Below.refl _ _⟩
  case round =>
    obtain ⟨k, A, c, hk, rfl, rfl, HO, HB⟩ := hrel
    by_cases hlt : k < s.size
    · obtain ⟨d1, d2⟩ := HNUM.out.dig.at k hlt
      have hx := nu_len HNUM.out k
      have E := Lib.hid (nu_take_snoc s k hlt)
      have hsz := HB.out.size
      obtain ⟨u, hu⟩ : ∃ u : Nat, (s[k].toNat : Int) - 48 = (u : Int) := ⟨s[k].toNat - 48, by omega⟩
      have hu9 : u ≤ 9 := by omega
      have E2 : Hid (nu (s.data.toList.take (k + 1)) = 10 * nu (s.data.toList.take k) + u) := by
        show _ = _
        rw [E.out]; congr 1; omega
      clear E HL0 HO0
      have H := Lib.hid (fun W => timesTen_any w.heap.size A _ c (nu (s.data.toList.take k)) u W (by omega) rfl)
      generalize nu (s.data.toList.take k) = x at *
      go_wp2_with fail
      refine (H.out _ hsz hu9 HO.out).mono ?_
      rintro e w1 ⟨A2, c2, rfl, ho, hb⟩
      have HO2 := Lib.hid ho
      have HB2 := Lib.hid (HB.out.trans hb)
      clear ho hb H HO HB hu
      go_wp2
      go_roundw
      case rel => exact ⟨k + 1, A2, c2, by omega, by go_num, by rw [E2.out], by rw [E2.out]; exact HO2, HB2⟩
      case measure => simp [intOf]; omega
    · have e : Hid (s.data.toList.take k = s.data.toList) := by
        show _ = _
        exact List.take_of_length_le (by rw [← Lib.size_eq]; omega)
      go_wp2
      go_ret2
      rw [e.out] at HO
      exact ⟨A, c, by rw [e.out]; rfl, HO.out, HB.out⟩

set_option maxHeartbeats 400000 in
theorem Parse_no (s : ByteArray) (w : World) (hs : s.size ≤ 1000000000000000) (h : ¬ IsNum s.data.toList) :
    Calls Tryd.prog 6 #[.string s] w fun e w' => e = .returned (.tuple #[.slice none 0 0, .bool false]) ∧ w = w' := by
  have H := Lib.hid h
  clear h
  go_enter Tryd.func6, Tryd.ntmps6
  go_wp2_with fail
  refine (areDigits_no s _ hs H.out).mono ?_
  rintro e w' ⟨rfl, rfl⟩
  go_wp2
  go_ret2
  exact ⟨rfl, rfl⟩
end Go.Proofs.YtcmomoalohibiaaDoor
