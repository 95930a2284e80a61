/- Package vertex as it landed: the parts of bytes. -/
import Derived.Test.YtmhohnffaffdfaaVtxDecE
namespace Dg
theorem texts_len_le (l : List (List UInt8)) : l.length ≤ (texts l).length := by
  induction l with
  | nil => simp [texts]
  | cons t l ih =>
    have : 1 ≤ (num t.length).length := by simp [num]
    simp only [texts, text, List.length_append, List.length_cons]
    omega
end Dg
namespace Vt
open Dg
theorem chain {v : Vtx} {n : Int} {s : List UInt8} (h : may v n = true) (hb : bytes v = s) :
    ∃ s1 s2 s3 s4 s5, takeNum s = (v.1.toNat, s1, 0) ∧ takeNum s1 = (v.2.1.toNat, s2, 0) ∧
      (∀ m : Int, 300 ≤ m ∨ (s2.length : Int) ≤ m → takeRow s2 4 m = (v.2.2.1.map Bt.bytes, s3, 0)) ∧ takeAll (v.2.2.1.map Bt.bytes) = (v.2.2.1, 0) ∧
      (∀ m : Int, n ≤ m → takeRow s3 m 32 = (v.2.2.2.1, s4, 0)) ∧ takeNum s4 = (v.2.2.2.2.1.toNat, s5, 0) ∧ takeNum s5 = (v.2.2.2.2.2.toNat, [], 0) := by
  have := parts h []
  rwa [List.append_nil, hb] at this
/-- The bytes have these parts: whichever vertex that may be has these bytes, it is this one. -/
theorem only {s s1 s2 s3 s4 s5 : List UInt8} {n : Int} {a r x y : Nat} {l : List (List UInt8)} {bs : List Bt.Bat} {ps : List (List UInt8)} {m m' : Int}
    (h1 : takeNum s = (a, s1, 0)) (h2 : takeNum s1 = (r, s2, 0)) (h3 : takeRow s2 4 m = (l, s3, 0)) (hm : 300 ≤ m ∨ (s2.length : Int) ≤ m) (h4 : takeAll l = (bs, 0)) (h5 : takeRow s3 m' 32 = (ps, s4, 0)) (hm' : n ≤ m') (h6 : takeNum s4 = (x, s5, 0)) (h7 : takeNum s5 = (y, [], 0))
    (u : Vtx) (hu : may u n = true) (hb : bytes u = s) : u = ((a : Int), (r : Int), bs, ps, (x : Int), (y : Int)) := by
  obtain ⟨t1, t2, t3, t4, t5, k1, k2, k3, k4, k5, k6, k7⟩ := chain hu hb
  have f := fits hu
  rw [h1] at k1
  simp only [Prod.mk.injEq, and_true] at k1
  obtain ⟨e1, rfl⟩ := k1
  rw [h2] at k2
  simp only [Prod.mk.injEq, and_true] at k2
  obtain ⟨e2, rfl⟩ := k2
  have k3' := k3 m hm
  rw [h3] at k3'
  simp only [Prod.mk.injEq, and_true] at k3'
  obtain ⟨rfl, rfl⟩ := k3'
  rw [h4] at k4
  simp only [Prod.mk.injEq, and_true] at k4
  have k5' := k5 m' hm'
  rw [h5] at k5'
  simp only [Prod.mk.injEq, and_true] at k5'
  obtain ⟨e5, rfl⟩ := k5'
  rw [h6] at k6
  simp only [Prod.mk.injEq, and_true] at k6
  obtain ⟨e6, rfl⟩ := k6
  rw [h7] at k7
  simp only [Prod.mk.injEq, and_true] at k7
  have a1 := f.a1
  have r1 := f.r1
  have x1 := f.x1
  have y1 := f.y1
  obtain ⟨ua, ur, ub, up, ux, uy⟩ := u
  simp only [] at *
  obtain rfl : ua = a := by omega
  obtain rfl : ur = r := by omega
  obtain rfl : ux = x := by omega
  obtain rfl : uy = y := by omega
  rw [k4, e5]
end Vt
namespace Go.Proofs.Ytmhohnffaffdfaa
open Go.RowKit
set_option maxRecDepth 100000

/-- A number beyond every int turns negative: no vertex has it. -/
theorem vwrap_key (n : Nat) (h : n < 18446744073709551616) : wrap64 (n : Int) = (n : Int) ∨ (wrap64 (n : Int) < 0 ∧ 9223372036854775808 ≤ n) := by
  rw [wrap64]; omega
theorem vwraps {n : Int} {a r x y : Nat} {bs : List Bt.Bat} {ps : List (List UInt8)} (ha : a < 18446744073709551616) (hr : r < 18446744073709551616) (hx : x < 18446744073709551616) (hy : y < 18446744073709551616)
    (h : Vt.may (wrap64 (a : Int), wrap64 (r : Int), bs, ps, wrap64 (x : Int), wrap64 (y : Int)) n = true ∨ Vt.may ((a : Int), (r : Int), bs, ps, (x : Int), (y : Int)) n = true) :
    (wrap64 (a : Int), wrap64 (r : Int), bs, ps, wrap64 (x : Int), wrap64 (y : Int)) = (((a : Int), (r : Int), bs, ps, (x : Int), (y : Int)) : Vt.Vtx) := by
  have w1 := vwrap_key a ha
  have w2 := vwrap_key r hr
  have w3 := vwrap_key x hx
  have w4 := vwrap_key y hy
  rcases h with h | h
  · have f := Vt.fits h
    have f1 := f.a1
    have f2 := f.r1
    have f3 := f.x1
    have f4 := f.y1
    simp only [] at f1 f2 f3 f4
    rw [show wrap64 (a : Int) = a by omega, show wrap64 (r : Int) = r by omega, show wrap64 (x : Int) = x by omega, show wrap64 (y : Int) = y by omega]
  · have f := Vt.fits h
    have f1 := f.a2
    have f2 := f.r2
    have f3 := f.x2
    have f4 := f.y2
    have f5 := f.n2
    simp only [] at f1 f2 f3 f4
    rw [show wrap64 (a : Int) = a by omega, show wrap64 (r : Int) = r by omega, show wrap64 (x : Int) = x by omega, show wrap64 (y : Int) = y by omega]

section
variable {W W' : World} {R A n : Nat} {a r x y a' r' x' y' : Int} {b p b' p' : Value}
theorem VBox.sets (h : VBox W R a r b p x y) (a' r' : Int) (b' p' : Value) (x' y' : Int) :
    VBox ((((((W.setCell ⟨R, 0, none⟩ (.int .i64 a')).setCell ⟨R, 1, none⟩ (.int .i64 r')).setCell ⟨R, 2, none⟩ b').setCell ⟨R, 3, none⟩ p').setCell ⟨R, 4, none⟩ (.int .i64 x')).setCell ⟨R, 5, none⟩ (.int .i64 y')) R a' r' b' p' x' y' := by
  have h0 := heap_setQ (k := 0) h (.int .i64 a')
  have h1 := heap_setQ (k := 1) h0 (.int .i64 r')
  have h2 := heap_setQ (k := 2) h1 b'
  have h3 := heap_setQ (k := 3) h2 p'
  have h4 := heap_setQ (k := 4) h3 (.int .i64 x')
  have h5 := heap_setQ (k := 5) h4 (.int .i64 y')
  exact h5
theorem Keeps.vsets (h : VBox W R a r b p x y) (a' r' : Int) (b' p' : Value) (x' y' : Int) :
    Keeps W ((((((W.setCell ⟨R, 0, none⟩ (.int .i64 a')).setCell ⟨R, 1, none⟩ (.int .i64 r')).setCell ⟨R, 2, none⟩ b').setCell ⟨R, 3, none⟩ p').setCell ⟨R, 4, none⟩ (.int .i64 x')).setCell ⟨R, 5, none⟩ (.int .i64 y')) := by
  have d : 28 ≠ 9 ∧ 28 ≠ 53 := by decide
  have h0 := heap_setQ (k := 0) h (.int .i64 a')
  have h1 := heap_setQ (k := 1) h0 (.int .i64 r')
  have h2 := heap_setQ (k := 2) h1 b'
  have h3 := heap_setQ (k := 3) h2 p'
  have h4 := heap_setQ (k := 4) h3 (.int .i64 x')
  exact (((((Keeps.set h d 0 _).trans (Keeps.set h0 d 1 _)).trans (Keeps.set h1 d 2 _)).trans (Keeps.set h2 d 3 _)).trans (Keeps.set h3 d 4 _)).trans (Keeps.set h4 d 5 _)
theorem below_vsets (h : Below n W W') (hR : n ≤ R) (a' r' : Int) (b' p' : Value) (x' y' : Int) :
    Below n W ((((((W'.setCell ⟨R, 0, none⟩ (.int .i64 a')).setCell ⟨R, 1, none⟩ (.int .i64 r')).setCell ⟨R, 2, none⟩ b').setCell ⟨R, 3, none⟩ p').setCell ⟨R, 4, none⟩ (.int .i64 x')).setCell ⟨R, 5, none⟩ (.int .i64 y')) :=
  below_setQ (below_setQ (below_setQ (below_setQ (below_setQ (below_setQ h hR _ _) hR _ _) hR _ _) hR _ _) hR _ _) hR _ _
theorem Keeps.only (h : UBox W A a r x y) (ho : Only A W W') : Keeps W W' := by
  refine ⟨(ho.below 0 (by omega)).size, fun k cur t fz e ht => ho.other k (fun ek => ?_)⟩
  subst ek
  have h' : W.heap[k]? = _ := h
  rw [e] at h'
  injection h' with h'
  injection h' with _ h' _
  subst h'
  rcases ht with h' | h'
  · exact absurd h' (by decide)
  · exact absurd h' (by decide)
end

/-- What the taking apart comes to. -/
def DO (s : List UInt8) (n : Int) (w : World) (e : Ending) (w' : World) : Prop :=
  Below w.heap.size w w' ∧ ((∃ x : Nat, e = .returned (.tuple #[vtxV 0 0 (.slice none 0 0) (.slice none 0 0) 0 0, .int .i64 x]) ∧ x ≠ 0 ∧ ∀ v, Vt.may v n = true → Vt.bytes v ≠ s) ∨
    ∃ (v : Vt.Vtx) (bv pv : Value), e = .returned (.tuple #[vtxV v.1 v.2.1 bv pv v.2.2.2.2.1 v.2.2.2.2.2, .int .i64 0]) ∧ BtsT w' bv v.2.2.1 ∧ TxT w' pv v.2.2.2.1 ∧ v.2.2.1.length ≤ 4 ∧ Vt.Small v.2.2.1 ∧ v.2.2.2.1.length ≤ 140737488351232 ∧
      (∀ u, Vt.may u n = true → Vt.bytes u = s → u = v) ∧ (Vt.may v n = true → Vt.bytes v = s))

set_option maxHeartbeats 8000000 in
theorem pdecode (s : List UInt8) (n : Int) (hs : s.length ≤ 140737488351232) (hnb : n ≤ 4294967296 ∨ s.length ≤ 4294967296) (n1 : -9223372036854775808 ≤ n) (n2 : n ≤ 9223372036854775807) (w : World) :
    Calls Try.prog 15 #[tx s, .int .i64 n] w (DO s n w) := by
  have V0 := Lib.hid ((VBox.new w 0 0 (.slice none 0 0) (.slice none 0 0) 0 0).alloc (.cells #[.int .u64 0, .int .u64 0, .int .u64 0, .int .u64 0] 67))
  have hu0 := UBox.new (w.alloc (.cells #[.int .i64 0, .int .i64 0, .slice none 0 0, .slice none 0 0, .int .i64 0, .int .i64 0] 28)) 0 0 0 0
  rw [World.size_alloc] at hu0
  have U0 := Lib.hid hu0
  have G0 := Lib.hid (show Below w.heap.size w ((w.alloc (.cells #[.int .i64 0, .int .i64 0, .slice none 0 0, .slice none 0 0, .int .i64 0, .int .i64 0] 28)).alloc (.cells #[.int .u64 0, .int .u64 0, .int .u64 0, .int .u64 0] 67)) from ((Below.refl _ _).alloc (Nat.le_refl _) _).alloc (by simp) _)
  have hne : w.heap.size ≠ w.heap.size + 1 := by omega
  have HNB := Lib.hid hnb
  clear hu0 hnb
  go_enter Try.func15, Try.ntmps15
  go_wp2_with fail
  refine (ptakeN0 s hs _ 4 0 0 0 0 _ U0.out).mono ?_
  rintro e w1 ⟨ho, hcase⟩
  have v1 := Lib.hid (show VBox w1 w.heap.size 0 0 (.slice none 0 0) (.slice none 0 0) 0 0 from (ho.other _ hne).trans V0.out)
  have G1 := Lib.hid (show Below w.heap.size w w1 from G0.out.trans (ho.below _ (by omega)))
  obtain ⟨c0, c1, c2, c3, c4, c5⟩ := v1.out.cells
  obtain ⟨f0, f1, f2, f3, f4, f5⟩ := v1.out.free
  clear ho
  rcases hcase with ⟨x, rfl, hx, hbad⟩ | ⟨a, r, s1, s2, rfl, h1, h2, hub⟩
  · have t1 : ((x : Int) != 0) = true := by rw [bne_iff_ne]; omega
    have HX := Lib.hid hx
    have HN := Lib.hid (show ∀ v, Vt.may v n = true → Vt.bytes v ≠ s from fun u hu e => by
      obtain ⟨t1, t2, t3, t4, t5, k1, k2, k3, k4, k5, k6, k7⟩ := Vt.chain hu e
      rcases hbad with h | h
      · rw [k1] at h; exact h rfl
      · rw [k1] at h; simp only [] at h; rw [k2] at h; exact h rfl)
    clear hx hbad
    clear c0 c1 c2 c3 c4 c5 f0 f1 f2 f3 f4 f5
    obtain ⟨c0, c1, c2, c3, c4, c5⟩ := v1.out.cells
    obtain ⟨f0, f1, f2, f3, f4, f5⟩ := v1.out.free
    go_wp2_with fail
    refine bodyPost_ret (v := .tuple #[vtxV 0 0 (.slice none 0 0) (.slice none 0 0) 0 0, .int .i64 x]) ?_ rfl ?_
    · obtain ⟨d0, d1, d2, d3, d4, d5⟩ := (v1.out.sets 0 0 (.slice none 0 0) (.slice none 0 0) 0 0).cells
      simp [results, Try.results15, go_sem, d0, d1, d2, d3, d4, d5]
    · exact ⟨below_vsets G1.out (Nat.le_refl _) _ _ _ _ _ _, .inl ⟨_, rfl, HX.out, HN.out⟩⟩
  have ha : a < 18446744073709551616 := by have := Dg.takeNum_bound s; rw [h1] at this; exact this
  have hr : r < 18446744073709551616 := by have := Dg.takeNum_bound s1; rw [h2] at this; exact this
  have l1 : s1.length ≤ s.length := by have := Dg.takeNum_rest s; rw [h1] at this; exact this
  have l2 : s2.length ≤ s1.length := by have := Dg.takeNum_rest s1; rw [h2] at this; exact this
  have HA := Lib.hid ha
  have HRb := Lib.hid hr
  have H1 := Lib.hid h1
  have H2 := Lib.hid h2
  have U1 := Lib.hid hub
  obtain ⟨l, s3, z3, h3⟩ : ∃ l s3 z3, Dg.takeRow s2 4 s2.length = (l, s3, z3) := ⟨_, _, _, rfl⟩
  have l3 : s3.length ≤ s2.length := by have := (Dg.takeRow_len s2 4 s2.length).2; rw [h3] at this; exact this
  have H3 := Lib.hid h3
  clear h1 h2 h3 hub ha hr
  go_wp2_with fail
  refine (takeRowG_eq H3.out (by omega) (.inl (by omega)) (by omega) (by omega) (by omega) (by omega) _).mono ?_
  rintro e w2 ⟨lv, rfl, hlv, hty, g2⟩
  have v2 := Lib.hid (v1.out.kept g2)
  have u2 := Lib.hid (U1.out.kept g2)
  have G2 := Lib.hid (grow_trans G1.out g2)
  have LV := Lib.hid hlv
  clear g2 hlv hty
  by_cases hz3 : z3 = 0
  case neg =>
    have t1 : ((z3 : Int) != 0) = true := by rw [bne_iff_ne]; omega
    have HX := Lib.hid hz3
    have HN := Lib.hid (show ∀ v, Vt.may v n = true → Vt.bytes v ≠ s from fun u hu e => by
      obtain ⟨t1, t2, t3, t4, t5, k1, k2, k3, k4, k5, k6, k7⟩ := Vt.chain hu e
      rw [H1.out] at k1; simp only [Prod.mk.injEq, and_true] at k1; obtain ⟨_, rfl⟩ := k1
      rw [H2.out] at k2; simp only [Prod.mk.injEq, and_true] at k2; obtain ⟨_, rfl⟩ := k2
      have k3' := k3 _ (.inr (Int.le_refl _))
      rw [H3.out] at k3'; simp only [Prod.mk.injEq] at k3'; exact hz3 k3'.2.2)
    clear hz3
    clear c0 c1 c2 c3 c4 c5 f0 f1 f2 f3 f4 f5
    obtain ⟨c0, c1, c2, c3, c4, c5⟩ := v2.out.cells
    obtain ⟨f0, f1, f2, f3, f4, f5⟩ := v2.out.free
    go_wp2_with fail
    refine bodyPost_ret (v := .tuple #[vtxV 0 0 (.slice none 0 0) (.slice none 0 0) 0 0, .int .i64 z3]) ?_ rfl ?_
    · obtain ⟨d0, d1, d2, d3, d4, d5⟩ := (v2.out.sets 0 0 (.slice none 0 0) (.slice none 0 0) 0 0).cells
      simp [results, Try.results15, go_sem, d0, d1, d2, d3, d4, d5]
    · exact ⟨below_vsets G2.out (Nat.le_refl _) _ _ _ _ _ _, .inl ⟨_, rfl, HX.out, HN.out⟩⟩
  subst hz3
  obtain ⟨_, b4, _, b5, _⟩ := Dg.takeRow_back _ _ _ _ _ H3.out
  have B4 := Lib.hid (show l.length ≤ 4 by omega)
  have B5 := Lib.hid (show ∀ t ∈ l, t.length ≤ 140737488351232 from fun t ht => by have := b5 t ht; omega)
  clear b4 b5
  obtain ⟨al, cl, rfl⟩ := LV.out.len
  go_wp2_with fail
  refine (peachT _ l _ LV.out B4.out B5.out).mono ?_
  rintro e w3 ⟨g3, hcase⟩
  have v3 := Lib.hid (v2.out.kept g3)
  have u3 := Lib.hid (u2.out.kept g3)
  have G3 := Lib.hid (grow_trans G2.out g3)
  clear g3
  rcases hcase with ⟨x, rfl, hx, hbad⟩ | ⟨bv, bs, rfl, h4, hbts⟩
  · have t1 : ((x : Int) != 0) = true := by rw [bne_iff_ne]; omega
    have HX := Lib.hid hx
    have HN := Lib.hid (show ∀ v, Vt.may v n = true → Vt.bytes v ≠ s from fun u hu e => by
      obtain ⟨t1, t2, t3, t4, t5, k1, k2, k3, k4, k5, k6, k7⟩ := Vt.chain hu e
      rw [H1.out] at k1; simp only [Prod.mk.injEq, and_true] at k1; obtain ⟨_, rfl⟩ := k1
      rw [H2.out] at k2; simp only [Prod.mk.injEq, and_true] at k2; obtain ⟨_, rfl⟩ := k2
      have k3' := k3 _ (.inr (Int.le_refl _))
      rw [H3.out] at k3'; simp only [Prod.mk.injEq, and_true] at k3'; obtain ⟨rfl, _⟩ := k3'
      rw [k4] at hbad; exact hbad rfl)
    clear hx hbad
    clear c0 c1 c2 c3 c4 c5 f0 f1 f2 f3 f4 f5
    obtain ⟨c0, c1, c2, c3, c4, c5⟩ := v3.out.cells
    obtain ⟨f0, f1, f2, f3, f4, f5⟩ := v3.out.free
    go_wp2_with fail
    refine bodyPost_ret (v := .tuple #[vtxV 0 0 (.slice none 0 0) (.slice none 0 0) 0 0, .int .i64 x]) ?_ rfl ?_
    · obtain ⟨d0, d1, d2, d3, d4, d5⟩ := (v3.out.sets 0 0 (.slice none 0 0) (.slice none 0 0) 0 0).cells
      simp [results, Try.results15, go_sem, d0, d1, d2, d3, d4, d5]
    · exact ⟨below_vsets G3.out (Nat.le_refl _) _ _ _ _ _ _, .inl ⟨_, rfl, HX.out, HN.out⟩⟩
  have H4 := Lib.hid h4
  have BT3 := Lib.hid hbts
  have lbs := Vt.takeAll_len l bs h4
  have LBS := Lib.hid (show bs.length ≤ 4 by have := B4.out; omega)
  have hsm : Vt.Small bs := by
    intro b hb
    have e := Vt.takeAll_back l bs h4
    have hl : (Bt.bytes b).length ≤ 140737488351232 := B5.out _ (by rw [← e]; exact List.mem_map_of_mem hb)
    have h1 := Dg.texts_len_le b.2.2
    simp only [Bt.bytes, Dg.row, List.length_append] at hl
    omega
  have HSM := Lib.hid hsm
  clear h4 hbts lbs hsm
  obtain ⟨ps, s4, z5, h5⟩ : ∃ ps s4 z5, Dg.takeRow s3 n 32 = (ps, s4, z5) := ⟨_, _, _, rfl⟩
  have l4 : s4.length ≤ s3.length := by have := (Dg.takeRow_len s3 n 32).2; rw [h5] at this; exact this
  have l5 : ps.length ≤ s3.length := by have := (Dg.takeRow_len s3 n 32).1; rw [h5] at this; exact this
  have H5 := Lib.hid h5
  clear h5
  obtain ⟨ab, cb, rfl⟩ := BT3.out.at.len
  go_wp2_with fail
  refine (takeRowG_eq H5.out (by omega) (by rcases HNB.out with h | h <;> omega) n1 n2 (by omega) (by omega) _).mono ?_
  rintro e w4 ⟨pv, rfl, hpv, hty, g4⟩
  have v4 := Lib.hid (v3.out.kept g4)
  have u4 := Lib.hid (u3.out.kept g4)
  have G4 := Lib.hid (grow_trans G3.out g4)
  have BT4 := Lib.hid (BT3.out.keep (Keeps.of g4))
  have PT4 := Lib.hid (show TxT w4 pv ps from TxM.ofT hpv hty)
  obtain ⟨ap, cp, rfl⟩ := hpv.len
  clear g4 hpv hty
  by_cases hz5 : z5 = 0
  case neg =>
    have t1 : ((z5 : Int) != 0) = true := by rw [bne_iff_ne]; omega
    have HX := Lib.hid hz5
    have HN := Lib.hid (show ∀ v, Vt.may v n = true → Vt.bytes v ≠ s from fun u hu e => by
      obtain ⟨t1, t2, t3, t4, t5, k1, k2, k3, k4, k5, k6, k7⟩ := Vt.chain hu e
      rw [H1.out] at k1; simp only [Prod.mk.injEq, and_true] at k1; obtain ⟨_, rfl⟩ := k1
      rw [H2.out] at k2; simp only [Prod.mk.injEq, and_true] at k2; obtain ⟨_, rfl⟩ := k2
      have k3' := k3 _ (.inr (Int.le_refl _))
      rw [H3.out] at k3'; simp only [Prod.mk.injEq, and_true] at k3'; obtain ⟨rfl, rfl⟩ := k3'
      have k5' := k5 n (Int.le_refl _)
      rw [H5.out] at k5'; simp only [Prod.mk.injEq] at k5'; exact hz5 k5'.2.2)
    clear hz5
    clear c0 c1 c2 c3 c4 c5 f0 f1 f2 f3 f4 f5
    obtain ⟨c0, c1, c2, c3, c4, c5⟩ := v4.out.cells
    obtain ⟨f0, f1, f2, f3, f4, f5⟩ := v4.out.free
    go_wp2_with fail
    refine bodyPost_ret (v := .tuple #[vtxV 0 0 (.slice none 0 0) (.slice none 0 0) 0 0, .int .i64 z5]) ?_ rfl ?_
    · obtain ⟨d0, d1, d2, d3, d4, d5⟩ := (v4.out.sets 0 0 (.slice none 0 0) (.slice none 0 0) 0 0).cells
      simp [results, Try.results15, go_sem, d0, d1, d2, d3, d4, d5]
    · exact ⟨below_vsets G4.out (Nat.le_refl _) _ _ _ _ _ _, .inl ⟨_, rfl, HX.out, HN.out⟩⟩
  subst hz5
  go_wp2_with fail
  refine (ptakeN2 s4 (by omega) _ 2 _ _ _ _ _ u4.out).mono ?_
  rintro e w5 ⟨ho, hcase⟩
  have v5 := Lib.hid (show VBox w5 w.heap.size 0 0 (.slice none 0 0) (.slice none 0 0) 0 0 from (ho.other _ hne).trans v4.out)
  have G5 := Lib.hid (show Below w.heap.size w w5 from G4.out.trans (ho.below _ (by omega)))
  have BT5 := Lib.hid (BT4.out.keep (Keeps.only u4.out ho))
  have PT5 := Lib.hid (PT4.out.keepT (Keeps.only u4.out ho))
  clear ho
  rcases hcase with ⟨x, rfl, hx, hbad⟩ | ⟨x, y, s5, s6, rfl, h6, h7, hub⟩
  · have t1 : ((x : Int) != 0) = true := by rw [bne_iff_ne]; omega
    have HN := Lib.hid (show ∀ v, Vt.may v n = true → Vt.bytes v ≠ s from fun u hu e => by
      obtain ⟨t1, t2, t3, t4, t5, k1, k2, k3, k4, k5, k6, k7⟩ := Vt.chain hu e
      rw [H1.out] at k1; simp only [Prod.mk.injEq, and_true] at k1; obtain ⟨_, rfl⟩ := k1
      rw [H2.out] at k2; simp only [Prod.mk.injEq, and_true] at k2; obtain ⟨_, rfl⟩ := k2
      have k3' := k3 _ (.inr (Int.le_refl _))
      rw [H3.out] at k3'; simp only [Prod.mk.injEq, and_true] at k3'; obtain ⟨rfl, rfl⟩ := k3'
      have k5' := k5 n (Int.le_refl _)
      rw [H5.out] at k5'; simp only [Prod.mk.injEq, and_true] at k5'; obtain ⟨_, rfl⟩ := k5'
      rcases hbad with h | h
      · rw [k6] at h; exact h rfl
      · rw [k6] at h; simp only [] at h; rw [k7] at h; exact h rfl)
    clear hx hbad
    clear c0 c1 c2 c3 c4 c5 f0 f1 f2 f3 f4 f5
    obtain ⟨c0, c1, c2, c3, c4, c5⟩ := v5.out.cells
    obtain ⟨f0, f1, f2, f3, f4, f5⟩ := v5.out.free
    go_wp2_with fail
    refine bodyPost_ret (v := .tuple #[vtxV 0 0 (.slice none 0 0) (.slice none 0 0) 0 0, .int .i64 3]) ?_ rfl ?_
    · obtain ⟨d0, d1, d2, d3, d4, d5⟩ := (v5.out.sets 0 0 (.slice none 0 0) (.slice none 0 0) 0 0).cells
      simp [results, Try.results15, go_sem, d0, d1, d2, d3, d4, d5]
    · exact ⟨below_vsets G5.out (Nat.le_refl _) _ _ _ _ _ _, .inl ⟨_, rfl, (show (3 : Nat) ≠ 0 by omega), HN.out⟩⟩
  have H6 := Lib.hid h6
  have H7 := Lib.hid h7
  have hxb : x < 18446744073709551616 := by have := Dg.takeNum_bound s4; rw [h6] at this; exact this
  have hyb : y < 18446744073709551616 := by have := Dg.takeNum_bound s5; rw [h7] at this; exact this
  have XB := Lib.hid hxb
  have YB := Lib.hid hyb
  have U5 := Lib.hid hub
  clear h6 h7 hxb hyb hub
  cases s6 with
  | cons q0 qs =>
    have HN := Lib.hid (show ∀ v, Vt.may v n = true → Vt.bytes v ≠ s from fun u hu e => by
      obtain ⟨t1, t2, t3, t4, t5, k1, k2, k3, k4, k5, k6, k7⟩ := Vt.chain hu e
      rw [H1.out] at k1; simp only [Prod.mk.injEq, and_true] at k1; obtain ⟨_, rfl⟩ := k1
      rw [H2.out] at k2; simp only [Prod.mk.injEq, and_true] at k2; obtain ⟨_, rfl⟩ := k2
      have k3' := k3 _ (.inr (Int.le_refl _))
      rw [H3.out] at k3'; simp only [Prod.mk.injEq, and_true] at k3'; obtain ⟨rfl, rfl⟩ := k3'
      have k5' := k5 n (Int.le_refl _)
      rw [H5.out] at k5'; simp only [Prod.mk.injEq, and_true] at k5'; obtain ⟨_, rfl⟩ := k5'
      rw [H6.out] at k6; simp only [Prod.mk.injEq, and_true] at k6; obtain ⟨_, rfl⟩ := k6
      rw [H7.out] at k7; simp only [Prod.mk.injEq] at k7; cases k7.2.1)
    clear c0 c1 c2 c3 c4 c5 f0 f1 f2 f3 f4 f5
    obtain ⟨c0, c1, c2, c3, c4, c5⟩ := v5.out.cells
    obtain ⟨f0, f1, f2, f3, f4, f5⟩ := v5.out.free
    go_wp2_with fail
    refine bodyPost_ret (v := .tuple #[vtxV 0 0 (.slice none 0 0) (.slice none 0 0) 0 0, .int .i64 3]) ?_ rfl ?_
    · obtain ⟨d0, d1, d2, d3, d4, d5⟩ := (v5.out.sets 0 0 (.slice none 0 0) (.slice none 0 0) 0 0).cells
      simp [results, Try.results15, go_sem, d0, d1, d2, d3, d4, d5]
    · exact ⟨below_vsets G5.out (Nat.le_refl _) _ _ _ _ _ _, .inl ⟨_, rfl, (show (3 : Nat) ≠ 0 by omega), HN.out⟩⟩
  | nil =>
    have hval := vwraps (n := n) (bs := bs) (ps := ps) HA.out HRb.out XB.out YB.out
    have honly := fun u hu e => Vt.only (n := n) H1.out H2.out H3.out (.inr (Int.le_refl _)) H4.out H5.out (Int.le_refl _) H6.out H7.out u hu e
    have hwhole := Vt.whole H1.out H2.out H3.out H4.out H5.out H6.out H7.out
    have HV := Lib.hid (show ∀ u, Vt.may u n = true → Vt.bytes u = s → u = (wrap64 (a : Int), wrap64 (r : Int), bs, ps, wrap64 (x : Int), wrap64 (y : Int)) from fun u hu e => by
      have h := honly u hu e
      rw [h] at hu
      rw [h]; exact (hval (.inr hu)).symm)
    have HW := Lib.hid (show Vt.may (wrap64 (a : Int), wrap64 (r : Int), bs, ps, wrap64 (x : Int), wrap64 (y : Int)) n = true → Vt.bytes (wrap64 (a : Int), wrap64 (r : Int), bs, ps, wrap64 (x : Int), wrap64 (y : Int)) = s from fun h => by
      rw [hval (.inl h)]; exact hwhole)
    have LPS := Lib.hid (show ps.length ≤ 140737488351232 by omega)
    clear hval honly hwhole
    obtain ⟨wa, hwa⟩ : ∃ z, wrap64 (a : Int) = z := ⟨_, rfl⟩
    obtain ⟨wr, hwr⟩ : ∃ z, wrap64 (r : Int) = z := ⟨_, rfl⟩
    obtain ⟨wx, hwx⟩ : ∃ z, wrap64 (x : Int) = z := ⟨_, rfl⟩
    obtain ⟨wy, hwy⟩ : ∃ z, wrap64 (y : Int) = z := ⟨_, rfl⟩
    rw [hwa, hwr, hwx, hwy] at HV HW
    have v6 := Lib.hid (v5.out.alloc (.cells #[.int .i64 wx, .int .i64 wy] 26))
    have u6 := Lib.hid (U5.out.kept ((Below.refl _ _).alloc (Nat.le_refl _) (.cells #[.int .i64 wx, .int .i64 wy] 26)))
    have G6 := Lib.hid (G5.out.alloc G5.out.size (.cells #[.int .i64 wx, .int .i64 wy] 26))
    have K6 := Lib.hid (Keeps.of ((Below.refl w5.heap.size w5).alloc (Nat.le_refl _) (.cells #[.int .i64 wx, .int .i64 wy] 26)))
    obtain ⟨k0, k1, k2, k3, _⟩ := U5.out.facts
    obtain ⟨k4, k5, k6, k7, _⟩ := u6.out.facts
    clear c0 c1 c2 c3 c4 c5 f0 f1 f2 f3 f4 f5
    obtain ⟨c0, c1, c2, c3, c4, c5⟩ := v6.out.cells
    obtain ⟨f0, f1, f2, f3, f4, f5⟩ := v6.out.free
    go_wp2_with fail
    refine bodyPost_ret (v := .tuple #[vtxV wa wr (.slice ab bs.length cb) (.slice ap ps.length cp) wx wy, .int .i64 0]) ?_ rfl ?_
    · obtain ⟨d0, d1, d2, d3, d4, d5⟩ := (v6.out.sets wa wr (.slice ab bs.length cb) (.slice ap ps.length cp) wx wy).cells
      simp [results, Try.results15, go_sem, d0, d1, d2, d3, d4, d5]
    · have K := K6.out.trans (Keeps.vsets v6.out wa wr (.slice ab bs.length cb) (.slice ap ps.length cp) wx wy)
      exact ⟨below_vsets G6.out (Nat.le_refl _) _ _ _ _ _ _, .inr ⟨(wa, wr, bs, ps, wx, wy), _, _, rfl, BT5.out.keep K, PT5.out.keepT K, LBS.out, HSM.out, LPS.out, HV.out, HW.out⟩⟩
end Go.Proofs.Ytmhohnffaffdfaa
