/-
  What an expression comes to as a sum: any tree; the program's Of and Value.
-/
import Derived.Test.YtdpbceipiappjaaGreatDoorSrH
import Derived.Test.YtdpbceipiappjaaGreatDoorSrI
namespace Go.Proofs.YtdpbceipiappjaaGreatDoor
set_option maxRecDepth 20000
open Go.RowKit

theorem said_err {g : ByteArray → Option (List (Int × Rat) × Rat)} {t : Ex} (h : t.fine) : ∀ e, sumOf g t = .err e → e = 5 ∨ e = 6 ∨ e = 7 := by
  intro e he
  have h1 := sumOf_said g t h
  rw [he] at h1
  rcases h1 with ⟨h1, _⟩ | h1
  · exact .inl h1
  · exact .inr h1
theorem walkS_c {w0 : World} (x0 x1 x2 x3 : Value) (g : ByteArray → Option (List (Int × Rat) × Rat)) (HN : ∀ (w' : World) (s : ByteArray), Below w0.heap.size w0 w' → Calls Tryz.prog 45 #[.agg #[x0, x1, x2, x3], .string s] w' (KR w' (nmS (g s)))) (hg : ∀ s x, g s = some x → SzS 1 x.1 x.2) :
    ∀ (t : Ex), t.fine → t.wf → t.nodes ≤ 111 → ∀ (v : Ev) (w : World), Tg w0 t v → Below w0.heap.size w0 w → Calls Tryz.prog 28 #[.agg #[x0, x1, x2, x3], .agg #[.int .i64 v.k, .bool v.r.s, .slice v.r.A v.r.n v.r.c, .slice v.r.B v.r.m v.r.d, .string v.s, .slice v.K v.n v.c]] w (KR w (sumOf g t)) := by
  intro t
  induction t with
  | bad => exact fun h => h.elim
  | num r =>
    intro hf _ _ v w hv hb
    obtain ⟨vk, y, st, K, n, c⟩ := v
    obtain ⟨h1, h2, h3, h4⟩ := hv
    dsimp only at h1 h2 h3 h4
    subst h1; subst h2; subst h3
    exact walkS_num x0 x1 x2 x3 y K c r w ((h4.below hb).rw ((num_szd hf).more (by omega)))
  | nm s =>
    intro hf _ _ v w hv hb
    obtain ⟨vk, y, st, K, n, c⟩ := v
    obtain ⟨h1, h2, h3, h4⟩ := hv
    dsimp only at h1 h2 h3 h4
    subst h1; subst h2; subst h3
    exact walkS_nm x0 x1 x2 x3 y _ K c _ w fun w' hb' => HN w' _ (hb.trans (hb'.mono hb.size))
  | neg a iha =>
    intro hf hw hn v w hv hb
    obtain ⟨vk, y, st, K, n, c⟩ := v
    obtain ⟨h1, h2, h3, h4, b0, off, x, hK, hlt, hx, hta⟩ := hv
    dsimp only at h1 h2 h3 h4 hK
    subst h1; subst h2; subst h3; subst hK
    rw [Nat.zero_mul, Nat.add_zero] at hx
    have hna : a.nodes ≤ 111 := by rw [Ex.nodes] at hn; omega
    exact walkS_neg x0 x1 x2 x3 y b0 off c x _ w a.nodes (Nat.lt_of_lt_of_le hlt hb.size) (hx.keep (hb.block b0 hlt)) (fun w' hb' => iha hf hw hna x w' hta (hb.trans (hb'.mono hb.size))) (said_err hf) (sumOf_szd g hg a hf) hna
  | bin k a b iha ihb =>
    intro hf hw hn v w hv hb
    obtain ⟨vk, y, st, K, n, c⟩ := v
    obtain ⟨h1, h2, h3, h4, b0, off, x, u, hK, hlt, hx, hu, hta, htb⟩ := hv
    dsimp only at h1 h2 h3 h4 hK
    subst h1; subst h2; subst h3; subst hK
    rw [Nat.zero_mul, Nat.add_zero] at hx
    rw [Nat.one_mul] at hu
    rw [Ex.nodes] at hn
    have hna : a.nodes ≤ 111 := by omega
    have hnb : b.nodes ≤ 111 := by omega
    exact walkS_bin x0 x1 x2 x3 y b0 off c x u _ _ w k b.nodes a.nodes (Nat.lt_of_lt_of_le hlt hb.size) (hx.keep (hb.block b0 hlt)) (hu.keep (hb.block b0 hlt)) (fun w' hb' => iha hf.1 hw.2.1 hna x w' hta (hb.trans (hb'.mono hb.size))) (said_err hf.1) (sumOf_szd g hg a hf.1) (fun w' hb' => ihb hf.2 hw.2.2 hnb u w' htb (hb.trans (hb'.mono hb.size))) (said_err hf.2) (sumOf_szd g hg b hf.2) hw.1 (by omega)
set_option maxHeartbeats 6400000 in
theorem readS_c (x0 x1 x2 x3 : Value) (u : Ev) (R : SR) (w : World) (hi : ∀ w', Below w.heap.size w w' → Calls Tryz.prog 27 #[.agg #[.int .i64 u.k, .bool u.r.s, .slice u.r.A u.r.n u.r.c, .slice u.r.B u.r.m u.r.d, .string u.s, .slice u.K u.n u.c]] w' fun e w'' => e = .returned (.bool true) ∧ Below w'.heap.size w' w'') (hw : ∀ w', Below w.heap.size w w' → Calls Tryz.prog 28 #[.agg #[x0, x1, x2, x3], .agg #[.int .i64 u.k, .bool u.r.s, .slice u.r.A u.r.n u.r.c, .slice u.r.B u.r.m u.r.d, .string u.s, .slice u.K u.n u.c]] w' (KR w' R)) :
    Calls Tryz.prog 16 #[.agg #[x0, x1, x2, x3], .agg #[.int .i64 u.k, .bool u.r.s, .slice u.r.A u.r.n u.r.c, .slice u.r.B u.r.m u.r.d, .string u.s, .slice u.K u.n u.c]] w (KR w R) := by
  have HI := Lib.hid hi
  have HWK := Lib.hid hw
  clear hi hw
  go_enter Tryz.func16, Tryz.ntmps16
  have e1 : (w.alloc (.cells #[x0, x1, x2, x3] 52)).heap.size = w.heap.size + 1 := by simp
  have e2 : ((w.alloc (.cells #[x0, x1, x2, x3] 52)).alloc (.cells #[.int .i64 u.k, .bool u.r.s, .slice u.r.A u.r.n u.r.c, .slice u.r.B u.r.m u.r.d, .string u.s, .slice u.K u.n u.c] 27)).heap.size = w.heap.size + 1 + 1 := by simp
  have hB2 : Below w.heap.size w ((w.alloc (.cells #[x0, x1, x2, x3] 52)).alloc (.cells #[.int .i64 u.k, .bool u.r.s, .slice u.r.A u.r.n u.r.c, .slice u.r.B u.r.m u.r.d, .string u.s, .slice u.K u.n u.c] 27)) := ((Below.refl _ _).alloc (Nat.le_refl _) _).alloc (by simp) _
  have hg := ((R4.new w x0 x1 x2 x3).below ((Below.refl _ _).alloc (Nat.le_refl _) (.cells #[.int .i64 u.k, .bool u.r.s, .slice u.r.A u.r.n u.r.c, .slice u.r.B u.r.m u.r.d, .string u.s, .slice u.K u.n u.c] 27))).below ((Below.refl _ _).alloc (Nat.le_refl _) (.cells #[.int .i64 0, .slice none 0 0, .bool false, .slice none 0 0, .slice none 0 0] 39))
  have he := (C6.new (w.alloc (.cells #[x0, x1, x2, x3] 52)) (.int .i64 u.k) (.bool u.r.s) (.slice u.r.A u.r.n u.r.c) (.slice u.r.B u.r.m u.r.d) (.string u.s) (.slice u.K u.n u.c)).below ((Below.refl _ _).alloc (Nat.le_refl _) (.cells #[.int .i64 0, .slice none 0 0, .bool false, .slice none 0 0, .slice none 0 0] 39))
  have hz := C5.new ((w.alloc (.cells #[x0, x1, x2, x3] 52)).alloc (.cells #[.int .i64 u.k, .bool u.r.s, .slice u.r.A u.r.n u.r.c, .slice u.r.B u.r.m u.r.d, .string u.s, .slice u.K u.n u.c] 27)) (.int .i64 0) (.slice none 0 0) (.bool false) (.slice none 0 0) (.slice none 0 0)
  have hB := hB2.alloc hB2.size (.cells #[.int .i64 0, .slice none 0 0, .bool false, .slice none 0 0, .slice none 0 0] 39)
  have hs : (((w.alloc (.cells #[x0, x1, x2, x3] 52)).alloc (.cells #[.int .i64 u.k, .bool u.r.s, .slice u.r.A u.r.n u.r.c, .slice u.r.B u.r.m u.r.d, .string u.s, .slice u.K u.n u.c] 27)).alloc (.cells #[.int .i64 0, .slice none 0 0, .bool false, .slice none 0 0, .slice none 0 0] 39)).heap.size = w.heap.size + 3 := by simp
  rw [e1] at he
  rw [e2] at hz
  clear e1 e2 hB2
  obtain ⟨g0, g1, g2, g3⟩ := hg.facts
  obtain ⟨e0, e1, e2, e3, e4, e5⟩ := he.facts
  go_wp2_with fail
  generalize (((w.alloc (.cells #[x0, x1, x2, x3] 52)).alloc (.cells #[.int .i64 u.k, .bool u.r.s, .slice u.r.A u.r.n u.r.c, .slice u.r.B u.r.m u.r.d, .string u.s, .slice u.K u.n u.c] 27)).alloc (.cells #[.int .i64 0, .slice none 0 0, .bool false, .slice none 0 0, .slice none 0 0] 39)) = W at *
  refine (HI.out _ hB).mono ?_
  rintro e w1 ⟨rfl, hb⟩
  have hg2 := hg.below hb
  have he2 := he.below hb
  have kz := hz.below hb
  have hB2 := hB.trans (hb.mono hB.size)
  have hs2 := hb.size
  clear hb g0 g1 g2 g3 e0 e1 e2 e3 e4 e5 hg he hz hB
  obtain ⟨g0, g1, g2, g3⟩ := hg2.facts
  obtain ⟨e0, e1, e2, e3, e4, e5⟩ := he2.facts
  go_wp2_with fail
  refine ((HWK.out _ hB2).mono fun e w' h => KR.open_ h).mono ?_
  rintro e w2 ⟨z, cc, rfl, hr, hb⟩
  have kz2 := kz.below hb
  have hB3 := hB2.trans (hb.mono hB2.size)
  have HR := Lib.hid (Res.lower (lo' := w.heap.size + 3) hr (by omega))
  clear g0 g1 g2 g3 e0 e1 e2 e3 e4 e5 hb hg2 he2 kz hB2 hr hs2 hs
  obtain ⟨q0, q1, q2, q3, q4⟩ := kz2.facts
  obtain ⟨t0, t1, t2, t3, t4⟩ := kz2.thaw
  go_wp2
  refine ret5t (fn := Tryz.f16) Tryz.results16 rfl rfl rfl (kz2.put _ _ _ _ _) ?_
  refine ⟨hB3.trans (put5_below (by omega) _ _ _ _ _), ?_⟩
  have h9 := HR.out
  cases R with
  | ok L k => obtain ⟨rfl, h9⟩ := h9; exact ⟨z, rfl, (h9.put (by omega) _ _ _ _ _).lower (by omega)⟩
  | err e => subst h9; exact ⟨z, rfl⟩
/-- The block of what names mean. -/
def V3 (w : World) (g : Nat) (x0 x1 x2 : Value) : Prop := w.heap[g]? = some (.cells #[x0, x1, x2] 31 (0, 0))
section
variable {w w' : World} {g : Nat} {x0 x1 x2 : Value}
theorem V3.lt (h : V3 w g x0 x1 x2) : g < w.heap.size := by
  rcases Nat.lt_or_ge g w.heap.size with h1 | h1
  · exact h1
  · have : w.heap[g]? = none := Array.getElem?_eq_none h1
    rw [V3, this] at h; cases h
theorem V3.below (h : V3 w g x0 x1 x2) (hb : Below w.heap.size w w') : V3 w' g x0 x1 x2 := (hb.block g h.lt).trans h
theorem V3.new (w : World) (x0 x1 x2 : Value) : V3 (w.alloc (.cells #[x0, x1, x2] 31)) w.heap.size x0 x1 x2 := heap_alloc_new w _
theorem V3.facts (h : V3 w g x0 x1 x2) : w.cell? ⟨g, 0, none⟩ = some x0 ∧ w.cell? ⟨g, 1, none⟩ = some x1 ∧ w.cell? ⟨g, 2, none⟩ = some x2 := by
  have h' : w.heap[g]? = some (.cells #[x0, x1, x2] 31 (0, 0)) := h
  refine ⟨?_, ?_, ?_⟩ <;> simp [World.cell?, h']
end
theorem gOf_sz {f : Int → List (Int × Rat) × Rat} {ss ns : List ByteArray} {L : List Rat} (hf : ∀ i, SzS 1 (f i).1 (f i).2) (hL : ∀ i, Sz (atV L i) 17) : ∀ s x, gOf f ss ns L s = some x → SzS 1 x.1 x.2 := by
  intro s x h
  unfold gOf at h
  split at h
  · injection h with h; subst h; exact hf _
  · split at h
    · injection h with h; subst h; exact ⟨fun y hy => (by cases hy), (by dsimp only; exact hL _), by simp⟩
    · cases h
theorem fOf_sz (i : Int) : SzS 1 (fOf i).1 (fOf i).2 := by
  refine ⟨fun y hy => ?_, Sz.zero (p := 17) (by omega), Nat.le_refl _⟩
  rcases List.mem_cons.1 hy with rfl | hy
  · exact sz_p1.more (by omega)
  · cases hy
theorem fAt_sz (i : Int) : SzS 1 (fAt i).1 (fAt i).2 := ⟨fun y hy => (by cases hy), (Sz.zero (p := 17) (by omega)), by simp [fAt]⟩
set_option maxHeartbeats 6400000 in
theorem OfS_c (t : Ex) (u : Ev) (v : Nv) (ss ns : List ByteArray) (L : List Rat) (w : World) (hm : t.may 32 256) (hwf : t.wf) (ht : Tg w t u) (hT : Tb w) (hn : t.nodes ≤ 111) (hE : EnvOk w v ss ns L) (hL : ∀ i, Sz (atV L i) 17) :
    Calls Tryz.prog 9 #[.agg #[.int .i64 u.k, .bool u.r.s, .slice u.r.A u.r.n u.r.c, .slice u.r.B u.r.m u.r.d, .string u.s, .slice u.K u.n u.c], .agg #[.slice v.VA v.vn v.vc, .slice v.NA v.nn v.nc, .slice v.LA v.ln v.lc]] w (KR w (sumOf (gOf fOf ss ns L) t)) := by
  have HC : Hid (∀ w', Below w.heap.size w w' → Calls Tryz.prog 16 #[.agg #[.slice v.VA v.vn v.vc, .slice v.NA v.nn v.nc, .slice v.LA v.ln v.lc, .func (.func 15) #[] #[]], .agg #[.int .i64 u.k, .bool u.r.s, .slice u.r.A u.r.n u.r.c, .slice u.r.B u.r.m u.r.d, .string u.s, .slice u.K u.n u.c]] w' (KR w' (sumOf (gOf fOf ss ns L) t))) := fun w' hb =>
    readS_c _ _ _ _ u _ w' (fun w2 hb2 => gIs_c true ⟨fun _ => hm, fun _ => rfl⟩ hwf (Tg.below (hb.trans (hb2.mono hb.size)) t u ht) (hT.below (hb.trans (hb2.mono hb.size))))
      (fun w2 hb2 => walkS_c _ _ _ _ _ (fun w3 s hb3 => namedV_c v ss ns L s w3 (hE.below hb3)) (gOf_sz fOf_sz hL) t hm.1 hwf hn u w2 ht (hb.trans (hb2.mono hb.size)))
  obtain ⟨R, hR⟩ : ∃ R, R = sumOf (gOf fOf ss ns L) t := ⟨_, rfl⟩
  rw [← hR] at HC ⊢
  clear hm hwf ht hT hn hE hL hR
  go_enter Tryz.func9, Tryz.ntmps9
  have e1 : (w.alloc (.cells #[.int .i64 u.k, .bool u.r.s, .slice u.r.A u.r.n u.r.c, .slice u.r.B u.r.m u.r.d, .string u.s, .slice u.K u.n u.c] 27)).heap.size = w.heap.size + 1 := by simp
  have e2 : ((w.alloc (.cells #[.int .i64 u.k, .bool u.r.s, .slice u.r.A u.r.n u.r.c, .slice u.r.B u.r.m u.r.d, .string u.s, .slice u.K u.n u.c] 27)).alloc (.cells #[.slice v.VA v.vn v.vc, .slice v.NA v.nn v.nc, .slice v.LA v.ln v.lc] 31)).heap.size = w.heap.size + 1 + 1 := by simp
  have hB2 : Below w.heap.size w ((w.alloc (.cells #[.int .i64 u.k, .bool u.r.s, .slice u.r.A u.r.n u.r.c, .slice u.r.B u.r.m u.r.d, .string u.s, .slice u.K u.n u.c] 27)).alloc (.cells #[.slice v.VA v.vn v.vc, .slice v.NA v.nn v.nc, .slice v.LA v.ln v.lc] 31)) := ((Below.refl _ _).alloc (Nat.le_refl _) _).alloc (by simp) _
  have he := ((C6.new w (.int .i64 u.k) (.bool u.r.s) (.slice u.r.A u.r.n u.r.c) (.slice u.r.B u.r.m u.r.d) (.string u.s) (.slice u.K u.n u.c)).below ((Below.refl _ _).alloc (Nat.le_refl _) (.cells #[.slice v.VA v.vn v.vc, .slice v.NA v.nn v.nc, .slice v.LA v.ln v.lc] 31))).below ((Below.refl _ _).alloc (Nat.le_refl _) (.cells #[.int .i64 0, .slice none 0 0, .bool false, .slice none 0 0, .slice none 0 0] 39))
  have hv := (V3.new (w.alloc (.cells #[.int .i64 u.k, .bool u.r.s, .slice u.r.A u.r.n u.r.c, .slice u.r.B u.r.m u.r.d, .string u.s, .slice u.K u.n u.c] 27)) (.slice v.VA v.vn v.vc) (.slice v.NA v.nn v.nc) (.slice v.LA v.ln v.lc)).below ((Below.refl _ _).alloc (Nat.le_refl _) (.cells #[.int .i64 0, .slice none 0 0, .bool false, .slice none 0 0, .slice none 0 0] 39))
  have hz := C5.new ((w.alloc (.cells #[.int .i64 u.k, .bool u.r.s, .slice u.r.A u.r.n u.r.c, .slice u.r.B u.r.m u.r.d, .string u.s, .slice u.K u.n u.c] 27)).alloc (.cells #[.slice v.VA v.vn v.vc, .slice v.NA v.nn v.nc, .slice v.LA v.ln v.lc] 31)) (.int .i64 0) (.slice none 0 0) (.bool false) (.slice none 0 0) (.slice none 0 0)
  have hB := hB2.alloc hB2.size (.cells #[.int .i64 0, .slice none 0 0, .bool false, .slice none 0 0, .slice none 0 0] 39)
  have hs : (((w.alloc (.cells #[.int .i64 u.k, .bool u.r.s, .slice u.r.A u.r.n u.r.c, .slice u.r.B u.r.m u.r.d, .string u.s, .slice u.K u.n u.c] 27)).alloc (.cells #[.slice v.VA v.vn v.vc, .slice v.NA v.nn v.nc, .slice v.LA v.ln v.lc] 31)).alloc (.cells #[.int .i64 0, .slice none 0 0, .bool false, .slice none 0 0, .slice none 0 0] 39)).heap.size = w.heap.size + 3 := by simp
  rw [e1] at hv
  rw [e2] at hz
  clear e1 e2 hB2
  obtain ⟨e0, e1, e2, e3, e4, e5⟩ := he.facts
  obtain ⟨v0, v1, v2⟩ := hv.facts
  go_wp2_with fail
  generalize (((w.alloc (.cells #[.int .i64 u.k, .bool u.r.s, .slice u.r.A u.r.n u.r.c, .slice u.r.B u.r.m u.r.d, .string u.s, .slice u.K u.n u.c] 27)).alloc (.cells #[.slice v.VA v.vn v.vc, .slice v.NA v.nn v.nc, .slice v.LA v.ln v.lc] 31)).alloc (.cells #[.int .i64 0, .slice none 0 0, .bool false, .slice none 0 0, .slice none 0 0] 39)) = W at *
  refine ((HC.out _ hB).mono fun e w' h => KR.open_ h).mono ?_
  rintro e w2 ⟨z, cc, rfl, hr, hb⟩
  have kz2 := hz.below hb
  have hB3 := hB.trans (hb.mono hB.size)
  have HR := Lib.hid (Res.lower (lo' := w.heap.size + 3) hr (by omega))
  clear e0 e1 e2 e3 e4 e5 v0 v1 v2 hb he hv hz hB hr hs
  obtain ⟨q0, q1, q2, q3, q4⟩ := kz2.facts
  obtain ⟨t0, t1, t2, t3, t4⟩ := kz2.thaw
  go_wp2
  refine ret5t (fn := Tryz.f9) Tryz.results9 rfl rfl rfl (kz2.put _ _ _ _ _) ?_
  refine ⟨hB3.trans (put5_below (by omega) _ _ _ _ _), ?_⟩
  have h9 := HR.out
  cases R with
  | ok L k => obtain ⟨rfl, h9⟩ := h9; exact ⟨z, rfl, (h9.put (by omega) _ _ _ _ _).lower (by omega)⟩
  | err e => subst h9; exact ⟨z, rfl⟩
/-- The error that is told. -/
def SR.code : SR → Int
  | .ok _ _ => 0
  | .err e => (e : Int)
theorem Res.code {w : World} {lo : Nat} {z : Cv} {c : Int} {r : SR} (h : Res w lo z c r) : c = r.code := by
  cases r with
  | ok L k => exact h.1
  | err e => exact h
set_option maxHeartbeats 6400000 in
theorem ValueS_c (t : Ex) (u : Ev) (v : Nv) (ss ns : List ByteArray) (L : List Rat) (w : World) (hm : t.may 32 256) (hwf : t.wf) (ht : Tg w t u) (hT : Tb w) (hn : t.nodes ≤ 111) (hE : EnvOk w v ss ns L) (hL : ∀ i, Sz (atV L i) 17) :
    Calls Tryz.prog 10 #[.agg #[.int .i64 u.k, .bool u.r.s, .slice u.r.A u.r.n u.r.c, .slice u.r.B u.r.m u.r.d, .string u.s, .slice u.K u.n u.c], .agg #[.slice v.VA v.vn v.vc, .slice v.NA v.nn v.nc, .slice v.LA v.ln v.lc], .slice none 0 0] w fun e w' => ∃ z : Rv, e = .returned (.tuple #[.agg #[.bool z.s, .slice z.A z.n z.c, .slice z.B z.m z.d], .int .i64 (sumOf (gOf fAt ss ns L) t).code]) ∧ Below w.heap.size w w' := by
  have HC : Hid (∀ (b : Nat) (w' : World), w'.cell? ⟨b, 0, none⟩ = some (.slice none 0 0) → b < w'.heap.size → Below w.heap.size w w' → Calls Tryz.prog 16 #[.agg #[.slice v.VA v.vn v.vc, .slice v.NA v.nn v.nc, .slice v.LA v.ln v.lc, .func (.func 17) #[] #[.pointer (some ⟨b, 0, none⟩)]], .agg #[.int .i64 u.k, .bool u.r.s, .slice u.r.A u.r.n u.r.c, .slice u.r.B u.r.m u.r.d, .string u.s, .slice u.K u.n u.c]] w' (KR w' (sumOf (gOf fAt ss ns L) t))) := fun b w' hc hbl hb =>
    readS_c _ _ _ _ u _ w' (fun w2 hb2 => gIs_c true ⟨fun _ => hm, fun _ => rfl⟩ hwf (Tg.below (hb.trans (hb2.mono hb.size)) t u ht) (hT.below (hb.trans (hb2.mono hb.size))))
      (fun w2 hb2 => walkS_c (w0 := w') _ _ _ _ _ (fun w3 s hb3 => namedF_c v ss ns L s b w3 ((hE.below hb).below hb3) ⟨(World.cell?_of_block (hb3.block b hbl)).trans hc, Nat.lt_of_lt_of_le hbl hb3.size⟩) (gOf_sz fAt_sz hL) t hm.1 hwf hn u w2 (Tg.below hb t u ht) hb2)
  obtain ⟨R, hR⟩ : ∃ R, R = sumOf (gOf fAt ss ns L) t := ⟨_, rfl⟩
  rw [← hR] at HC ⊢
  clear hm hwf ht hT hn hE hL hR
  go_enter Tryz.func10, Tryz.ntmps10
  have e1 : (w.alloc (.cells #[.int .i64 u.k, .bool u.r.s, .slice u.r.A u.r.n u.r.c, .slice u.r.B u.r.m u.r.d, .string u.s, .slice u.K u.n u.c] 27)).heap.size = w.heap.size + 1 := by simp
  have e2 : ((w.alloc (.cells #[.int .i64 u.k, .bool u.r.s, .slice u.r.A u.r.n u.r.c, .slice u.r.B u.r.m u.r.d, .string u.s, .slice u.K u.n u.c] 27)).alloc (.cells #[.slice v.VA v.vn v.vc, .slice v.NA v.nn v.nc, .slice v.LA v.ln v.lc] 31)).heap.size = w.heap.size + 2 := by simp
  have e3 : (((w.alloc (.cells #[.int .i64 u.k, .bool u.r.s, .slice u.r.A u.r.n u.r.c, .slice u.r.B u.r.m u.r.d, .string u.s, .slice u.K u.n u.c] 27)).alloc (.cells #[.slice v.VA v.vn v.vc, .slice v.NA v.nn v.nc, .slice v.LA v.ln v.lc] 31)).alloc (.cells #[.slice none 0 0] 29)).heap.size = w.heap.size + 3 := by simp
  have hB2 : Below w.heap.size w ((w.alloc (.cells #[.int .i64 u.k, .bool u.r.s, .slice u.r.A u.r.n u.r.c, .slice u.r.B u.r.m u.r.d, .string u.s, .slice u.K u.n u.c] 27)).alloc (.cells #[.slice v.VA v.vn v.vc, .slice v.NA v.nn v.nc, .slice v.LA v.ln v.lc] 31)) := ((Below.refl _ _).alloc (Nat.le_refl _) _).alloc (by simp) _
  have he := (((C6.new w (.int .i64 u.k) (.bool u.r.s) (.slice u.r.A u.r.n u.r.c) (.slice u.r.B u.r.m u.r.d) (.string u.s) (.slice u.K u.n u.c)).below ((Below.refl _ _).alloc (Nat.le_refl _) (.cells #[.slice v.VA v.vn v.vc, .slice v.NA v.nn v.nc, .slice v.LA v.ln v.lc] 31))).below ((Below.refl _ _).alloc (Nat.le_refl _) (.cells #[.slice none 0 0] 29))).below ((Below.refl _ _).alloc (Nat.le_refl _) (.cells #[.bool false, .slice none 0 0, .slice none 0 0] 24))
  have hv := ((V3.new (w.alloc (.cells #[.int .i64 u.k, .bool u.r.s, .slice u.r.A u.r.n u.r.c, .slice u.r.B u.r.m u.r.d, .string u.s, .slice u.K u.n u.c] 27)) (.slice v.VA v.vn v.vc) (.slice v.NA v.nn v.nc) (.slice v.LA v.ln v.lc)).below ((Below.refl _ _).alloc (Nat.le_refl _) (.cells #[.slice none 0 0] 29))).below ((Below.refl _ _).alloc (Nat.le_refl _) (.cells #[.bool false, .slice none 0 0, .slice none 0 0] 24))
  have hN1 : (((w.alloc (.cells #[.int .i64 u.k, .bool u.r.s, .slice u.r.A u.r.n u.r.c, .slice u.r.B u.r.m u.r.d, .string u.s, .slice u.K u.n u.c] 27)).alloc (.cells #[.slice v.VA v.vn v.vc, .slice v.NA v.nn v.nc, .slice v.LA v.ln v.lc] 31)).alloc (.cells #[.slice none 0 0] 29)).heap[w.heap.size + 2]? = some (.cells #[.slice none 0 0] 29 (0, 0)) := by rw [← e2]; exact heap_alloc_new _ _
  have hN : ((((w.alloc (.cells #[.int .i64 u.k, .bool u.r.s, .slice u.r.A u.r.n u.r.c, .slice u.r.B u.r.m u.r.d, .string u.s, .slice u.K u.n u.c] 27)).alloc (.cells #[.slice v.VA v.vn v.vc, .slice v.NA v.nn v.nc, .slice v.LA v.ln v.lc] 31)).alloc (.cells #[.slice none 0 0] 29)).alloc (.cells #[.bool false, .slice none 0 0, .slice none 0 0] 24)).heap[w.heap.size + 2]? = some (.cells #[.slice none 0 0] 29 (0, 0)) := (((Below.refl _ (((w.alloc (.cells #[.int .i64 u.k, .bool u.r.s, .slice u.r.A u.r.n u.r.c, .slice u.r.B u.r.m u.r.d, .string u.s, .slice u.K u.n u.c] 27)).alloc (.cells #[.slice v.VA v.vn v.vc, .slice v.NA v.nn v.nc, .slice v.LA v.ln v.lc] 31)).alloc (.cells #[.slice none 0 0] 29))).alloc (Nat.le_refl _) (.cells #[.bool false, .slice none 0 0, .slice none 0 0] 24)).block _ (by rw [e3]; omega)).trans hN1
  have hz := C3.new (((w.alloc (.cells #[.int .i64 u.k, .bool u.r.s, .slice u.r.A u.r.n u.r.c, .slice u.r.B u.r.m u.r.d, .string u.s, .slice u.K u.n u.c] 27)).alloc (.cells #[.slice v.VA v.vn v.vc, .slice v.NA v.nn v.nc, .slice v.LA v.ln v.lc] 31)).alloc (.cells #[.slice none 0 0] 29)) (.bool false) (.slice none 0 0) (.slice none 0 0)
  have hB := (hB2.alloc hB2.size (.cells #[.slice none 0 0] 29)).alloc (by simp; omega) (.cells #[.bool false, .slice none 0 0, .slice none 0 0] 24)
  have hs : ((((w.alloc (.cells #[.int .i64 u.k, .bool u.r.s, .slice u.r.A u.r.n u.r.c, .slice u.r.B u.r.m u.r.d, .string u.s, .slice u.K u.n u.c] 27)).alloc (.cells #[.slice v.VA v.vn v.vc, .slice v.NA v.nn v.nc, .slice v.LA v.ln v.lc] 31)).alloc (.cells #[.slice none 0 0] 29)).alloc (.cells #[.bool false, .slice none 0 0, .slice none 0 0] 24)).heap.size = w.heap.size + 4 := by simp
  rw [e1] at hv
  rw [e3] at hz
  clear e1 e2 e3 hB2 hN1
  obtain ⟨e0, e1, e2, e3, e4, e5⟩ := he.facts
  obtain ⟨v0, v1, v2⟩ := hv.facts
  go_wp2_with fail
  generalize ((((w.alloc (.cells #[.int .i64 u.k, .bool u.r.s, .slice u.r.A u.r.n u.r.c, .slice u.r.B u.r.m u.r.d, .string u.s, .slice u.K u.n u.c] 27)).alloc (.cells #[.slice v.VA v.vn v.vc, .slice v.NA v.nn v.nc, .slice v.LA v.ln v.lc] 31)).alloc (.cells #[.slice none 0 0] 29)).alloc (.cells #[.bool false, .slice none 0 0, .slice none 0 0] 24)) = W at *
  refine ((HC.out _ _ (by simp [World.cell?, hN]) (by omega) hB).mono fun e w' h => KR.open_ h).mono ?_
  rintro e w2 ⟨z, cc, rfl, hr, hb⟩
  have kz2 := hz.below hb
  have hB3 := hB.trans (hb.mono hB.size)
  have HR := Lib.hid hr.code
  have hs2 := hb.size
  clear e0 e1 e2 e3 e4 e5 v0 v1 v2 hb he hv hz hB hr hN
  have kc := C5.new w2 (.int .i64 z.s) (.slice z.A z.n z.c) (.bool z.K.s) (.slice z.K.A z.K.n z.K.c) (.slice z.K.B z.K.m z.K.d)
  have kz3 := kz2.below ((Below.refl _ _).alloc (Nat.le_refl _) (.cells #[.int .i64 z.s, .slice z.A z.n z.c, .bool z.K.s, .slice z.K.A z.K.n z.K.c, .slice z.K.B z.K.m z.K.d] 39))
  have hB4 := hB3.alloc hB3.size (.cells #[.int .i64 z.s, .slice z.A z.n z.c, .bool z.K.s, .slice z.K.A z.K.n z.K.c, .slice z.K.B z.K.m z.K.d] 39)
  obtain ⟨q0, q1, q2, t0, t1, t2⟩ := kz3.facts
  obtain ⟨c0, c1, c2, c3, c4⟩ := kc.facts
  have n1 : ¬ w.heap.size + 3 = w2.heap.size := by omega
  have n2 : ¬ w2.heap.size = w.heap.size + 3 := by omega
  go_wp2
  refine ret3t (fn := Tryz.f10) Tryz.results10 rfl rfl rfl (kz3.put _ _ _) ?_
  exact ⟨z.K, by rw [← HR.out]; rfl, hB4.trans (put3_below (by omega) _ _ _)⟩
end Go.Proofs.YtdpbceipiappjaaGreatDoor
