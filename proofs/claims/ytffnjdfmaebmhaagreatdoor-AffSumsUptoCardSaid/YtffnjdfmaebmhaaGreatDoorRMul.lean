/-
  A product: the document's way.
-/
import Derived.Test.YtffnjdfmaebmhaaGreatDoorNMul
import Derived.Test.YtffnjdfmaebmhaaGreatDoorSub
import Derived.Test.YtffnjdfmaebmhaaGreatDoorCmp
namespace Go.Proofs.YtffnjdfmaebmhaaGreatDoor
set_option maxRecDepth 20000
open Go.RowKit

theorem qleft {P : Program} {f : FuncId} {args : Array Value} {w : World} {k : Nat} {v : Value}
    (h : Calls P f args (w.drewN k) fun e w' => e = .returned v ∧ w.drewN k = w') : Calls P f args (w.drewN k) fun e w' => e = .returned v ∧ ∃ m, w' = w.drewN m :=
  h.mono fun _ _ h => ⟨h.1, k, h.2.symm⟩

theorem below_drewN' (B : Nat) (w : World) (q : Nat) : Below B w (w.drewN q) := ⟨rfl, rfl, rfl, Nat.le_refl _, fun _ _ => rfl⟩
theorem Own.drewN {w : World} {lo n c : Nat} {A : Option Addr} {l : List Nat} (h : Own w lo A c n l) (q : Nat) : Own (w.drewN q) lo A c n l := h.below (below_drewN' _ _ _)
theorem TimesAt.drewN {w0 wr : World} {g N i f : Nat} {b L : List Nat} {k c : Nat} {L' : List Nat} (h : TimesAt w0 wr g N i f b L k c L') (q : Nat) : TimesAt w0 (wr.drewN q) g N i f b L k c L' :=
  ⟨h.own.drewN q, h.sum, h.rest, h.below.trans (below_drewN' _ _ _)⟩

/-- What the outer loop keeps. -/
structure RMulAt (w wr : World) (g N : Nat) (a b : List Nat) (i : Nat) (L : List Nat) : Prop where
  own : Own wr w.heap.size (some ⟨g, 0, none⟩) N N L
  sum : val L = S (fun j => dg a j) i * val b
  below : Below w.heap.size w wr

theorem pow_mul_lt {x y n m : Nat} (hx : x < 4294967296 ^ n) (hy : y < 4294967296 ^ m) : x * y < 4294967296 ^ (n + m) := by
  rw [Nat.pow_add]; exact Nat.mul_lt_mul'' hx hy

theorem RMulAt.next {w wr w1 : World} {g n m : Nat} {a b : List Nat} {i k c : Nat} {L L' : List Nat} (h : RMulAt w wr g (n + m) a b i L) (ha : L32 a) (hb : L32 b) (hla : a.length = n) (hlb : b.length = m) (hi : i < n)
    (ht : TimesAt w w1 g (n + m) i (dg a i) b L k c L') (hk : (m ≤ k ∧ c = 0) ∨ i + k = n + m) : RMulAt w w1 g (n + m) a b (i + 1) L' := by
  have hkm : m ≤ k := by omega
  have h1 := ht.sum
  rw [S_more b k (by omega), h.sum, ← Nat.mul_assoc, ← Nat.add_mul] at h1
  have h2 : S (fun j => dg a j) (i + 1) = S (fun j => dg a j) i + 4294967296 ^ i * dg a i := rfl
  rw [← h2] at h1
  refine ⟨ht.own, ?_, ht.below⟩
  rcases hk with ⟨_, rfl⟩ | hk
  · omega
  · have h3 := pow_mul_lt (Nat.lt_of_le_of_lt (S_le_val a (i + 1)) (val_lt ha)) (val_lt hb)
    rw [hla, hlb] at h3
    rw [hk] at h1
    rcases Nat.eq_zero_or_pos c with h0 | h0
    · subst h0; omega
    · have : 4294967296 ^ (n + m) * 1 ≤ 4294967296 ^ (n + m) * c := Nat.mul_le_mul_left _ h0
      omega

set_option maxHeartbeats 1600000 in
theorem rMul_any (A B : Option Addr) (n m c d : Nat) (a b : List Nat) (w : World) (hn : n ≤ 100000) (hm : m ≤ 100000) (ha : Row w 0 A n a) (hb : Row w 0 B m b) :
    Calls Tryz.prog 64 #[.slice A n c, .slice B m d] w fun e w' => ∃ A2 c2, e = .returned (.slice A2 (lim (val a * val b)).length c2) ∧ Own w' w.heap.size A2 c2 (lim (val a * val b)).length (lim (val a * val b)) ∧ Below w.heap.size w w' := by
  obtain ⟨i0, hi, hz0, hz1, hz2⟩ := info_parts Tryz.info74
  go_enter Tryz.func64, Tryz.ntmps64
  go_wp2_with (at_make; refine wpList_make_full _ rfl _ _ _ rfl w.heap.size 74 i0 (.int .u32 0) 1 Tryz.underlying23 hi hz0 hz1 .i64 .i64 _ _ (n + m) rfl rfl ?c4 ?c5 ?c1 ?c2 ?c3 ?_)
  case c4 => omega
  case c5 => omega
  case c1 => rw [hz2]; omega
  case c2 => unfold maxLen; omega
  case c3 => exact Nat.le_refl _
  intro w1 ho hg
  have HST : Hid (RMulAt w w1 w.heap.size (n + m) a b 0 (List.replicate (n + m) 0)) :=
    ⟨Own.made ho, by rw [val_replicate]; simp [S], below_of_grown hg⟩
  clear ho hg
  go_wp2
  go_loopw [6, 7, 8] (fun iv _ _ wr => ∃ (i : Nat) (L : List Nat), i ≤ n ∧ iv = .int .i64 i ∧ Hid (RMulAt w wr w.heap.size (n + m) a b i L)) (fun iv _ _ _ => n - (intOf iv).toNat)
  case atStart => exact ⟨0, _, by omega, rfl, HST⟩
  case round =>
    obtain ⟨i, L, hi, rfl, HA⟩ := hrel
    by_cases h0 : i < n
    · have NEXT : Hid (∀ (w1 : World) (k cy : Nat) (L' : List Nat), TimesAt w w1 w.heap.size (n + m) i (dg a i) b L k cy L' → (m ≤ k ∧ cy = 0) ∨ i + k = n + m → RMulAt w w1 w.heap.size (n + m) a b (i + 1) L') :=
        fun w1 k cy L' ht hk => HA.out.next ha.l32 hb.l32 ha.len hb.len h0 ht hk
      have HT : Hid (TimesAt w wr w.heap.size (n + m) i (dg a i) b L 0 0 L) := ⟨HA.out.own, by simp [S], fun _ _ => rfl, HA.out.below⟩
      clear HST HA
      obtain ⟨wo, hwo⟩ : ∃ wo : World, wo = wr := ⟨_, rfl⟩
      subst hwo
      go_wp2
      go_loopw [7, 8] (fun cv kv wr => ∃ (k cy : Nat) (L' : List Nat), i + k ≤ n + m ∧ cy < 4294967296 ∧ kv = .int .i64 k ∧ cv = .int .u64 cy ∧ Hid (TimesAt w wr w.heap.size (n + m) i (dg a i) b L k cy L')) (fun _ kv _ => n + m - (intOf kv).toNat)
      case atStart => exact ⟨0, 0, L, by omega, by omega, rfl, rfl, HT⟩
      case round =>
        obtain ⟨k, cy, L', hk, hcy, rfl, rfl, HB⟩ := hrel
        by_cases hE : m ≤ k ∧ cy = 0
        · obtain ⟨hmk, rfl⟩ := hE
          have HN := Lib.hid (NEXT.out wr k 0 L' HB.out (.inl ⟨hmk, rfl⟩))
          clear NEXT HT HB
          go_wp2
          go_roundw
          case rel => exact ⟨i + 1, L', by omega, by go_num, HN⟩
          case measure => simp [intOf]; omega
        · by_cases hB : i + k = n + m
          · have HN := Lib.hid (NEXT.out wr k cy L' HB.out (.inr hB))
            have hc0 : 0 < cy := by omega
            have hmk : m ≤ k := by omega
            clear NEXT HT HB hE
            go_wp2
            go_roundw
            case rel => exact ⟨i + 1, L', by omega, by go_num, HN⟩
            case measure => simp [intOf]; omega
          · have hik : i + k < n + m := by omega
            have hb1 := hb.below HB.out.below
            have ha1 := ha.below HB.out.below
            have hxa := ha.l32 i
            have hxb := hb.l32 k
            have hs := HB.out.own.l32 (i + k)
            obtain ⟨b', off, rfl, h1, h2, hc⟩ := ha1.mem (by omega)
            have hca := hc i h0
            obtain ⟨b2, off2, hA, h3, h4, hc2⟩ := HB.out.own.row.mem (by omega)
            injection hA with hA
            injection hA with e1 e2
            subst e1 e2
            have hcs := hc2 (i + k) (by omega)
            rw [Nat.zero_add] at hcs
            have hfs := HB.out.own.own.frozenAt (i + k)
            have STEP : Hid (∀ (q : Nat) (v : Int), v = (((cy + (dg b k * dg a i + dg L' (i + k))) % 4294967296 : Nat) : Int) → TimesAt w ((wr.drewN q).setCell ⟨w.heap.size, i + k, none⟩ (.int .u32 v)) w.heap.size (n + m) i (dg a i) b L (k + 1) ((cy + (dg b k * dg a i + dg L' (i + k))) / 4294967296) (L'.set (i + k) ((cy + (dg b k * dg a i + dg L' (i + k))) % 4294967296))) :=
              fun q v hv => by rw [hv]; exact (HB.out.drewN q).step hik (Nat.le_refl _)
            have hp : dg b k * dg a i ≤ 18446744065119617025 := Nat.le_trans (Nat.mul_le_mul (Nat.le_sub_one_of_lt hxb) (Nat.le_sub_one_of_lt hxa)) (by decide)
            have hp2 : dg b k * dg a i = dg a i * dg b k := Nat.mul_comm _ _
            rw [hp2] at hp STEP
            clear hp2 hc hc2 NEXT HT HB ha1 ha
            by_cases hkm : k < m
            all_goals
              go_wp2
              go_quiet ((go_at_call 93; exact qleft (at_any B m d b k k _ (by omega) (hb1.drewN _) rfl)))
              go_wp2
              go_roundw
              case rel => exact ⟨k + 1, (cy + (dg a i * dg b k + dg L' (i + k))) / 4294967296, _, by omega, by omega, by go_num, by go_num, STEP.out _ _ (by omega)⟩
              case measure => simp [intOf]; omega
    · have hin : i = n := by omega
      have E1 : Hid (val L = val a * val b) := by
        show _ = _
        rw [HA.out.sum, S_more a i (by rw [ha.len]; omega)]
      have hrow := HA.out.own.row.lower (Nat.zero_le _)
      have hb3 := HA.out.below
      clear HA HST
      go_wp2_with fail
      refine (rTrim_any _ _ _ L _ (by omega) (Nat.le_refl _) hrow).mono ?_
      rintro e w3 ⟨A3, c3, rfl, ho3, hb4⟩
      have HO := Lib.hid (ho3.lower hb3.size)
      have HB4 := Lib.hid (hb3.trans (hb4.mono hb3.size))
      clear ho3 hb4
      go_wp2
      go_ret
      have HO2 := HO.out
      rw [E1.out] at HO2
      exact ⟨A3, c3, by rw [← E1.out]; rfl, HO2, HB4.out⟩
end Go.Proofs.YtffnjdfmaebmhaaGreatDoor
