/- VertexTurned: the walk. -/
import Derived.Test.YtmhohnffaffdfaaVtxShown
import Derived.Test.YtmhohnffaffdfaaMark
namespace Go.Proofs.Ytmhohnffaffdfaa
open Go.RowKit Go.ChangeShapes Go.WideShapes Go.ChangeAt
set_option maxRecDepth 100000

theorem MarkRow.store {w : World} {base : Nat} {e : TypeId} {v : Value} {l : List UInt8} (h : MarkRow w base e v l) (k : Nat) (hk : k < l.length) (y : UInt8) :
    ∃ g cap, v = .slice (some ⟨g, 0, none⟩) l.length cap ∧ base ≤ g ∧ (∃ u, w.cell? ⟨g, k, none⟩ = some u) ∧ w.frozen? ⟨g, k, none⟩ = false ∧ MarkRow (w.setCell ⟨g, k, none⟩ (bv y)) base e v (l.set k y) := by
  obtain ⟨g, cap, cur, fz, rfl, hb, hg, hf, hl, hm, hs, ht⟩ := h
  refine ⟨g, cap, rfl, hb, ⟨cur[k]'(by omega), by simp [World.cell?, hg, show k < cur.size by omega]⟩, ?_, g, cap, cur.setIfInBounds k (bv y), fz, by simp, hb, ?_, hf, by simpa using hl, hm, by simpa using hs, ?_⟩
  · obtain ⟨lo, up⟩ := fz
    simp only [World.frozen?, hg, Bool.and_eq_false_iff, decide_eq_false_iff_not]
    simp only at hf
    omega
  · rw [setCell_eq_setRow w g k cur e fz (bv y) hg]
    exact setRow_heap w g cur _ e _ hg
  · simp only [List.length_set, Array.toList_setIfInBounds, List.map_set]
    rw [← ht, List.take_set]

attribute [local go_sem] byte_at
/-- 'string(b)' of such a block. -/
theorem MarkRow.text {w : World} {base : Nat} {v : Value} {l : List UInt8} (h : MarkRow w base 5 v l) :
    (convert 43 9 v).run Try.prog w = .ok (tx l) w := by
  obtain ⟨g, cap, rfl, hc⟩ := h.cell
  rw [run_convert_bytes_arg (P := Try.prog) w 43 5 Try.underlying43 Try.underlying5 g 0 l.length cap (l.map fun y => (y.toNat : Int)) (by simp) hc 9 Try.underlying9, strOfNums_bytes]


/-- What came in, in a block. -/
def IBox (W : World) (B : Nat) (a r : Int) (b p : Value) (x y n c : Int) (q : Value) : Prop := W.heap[B]? = some (.cells #[.int .i64 a, .int .i64 r, b, p, .int .i64 x, .int .i64 y, .int .i64 n, .int .i64 c, q] 42 (0, 0))
theorem IBox.cells {W : World} {B : Nat} {a r x y n c : Int} {b p q : Value} (h : IBox W B a r b p x y n c q) : W.cell? ⟨B, 0, none⟩ = some (.int .i64 a) ∧ W.cell? ⟨B, 1, none⟩ = some (.int .i64 r) ∧ W.cell? ⟨B, 2, none⟩ = some b ∧ W.cell? ⟨B, 3, none⟩ = some p ∧ W.cell? ⟨B, 4, none⟩ = some (.int .i64 x) ∧ W.cell? ⟨B, 5, none⟩ = some (.int .i64 y) ∧ W.cell? ⟨B, 6, none⟩ = some (.int .i64 n) ∧ W.cell? ⟨B, 7, none⟩ = some (.int .i64 c) ∧ W.cell? ⟨B, 8, none⟩ = some q := by
  have e : W.heap[B]? = _ := h
  refine ⟨?_, ?_, ?_, ?_, ?_, ?_, ?_, ?_, ?_⟩ <;> simp [World.cell?, e]
theorem IBox.new (W : World) (a r : Int) (b p : Value) (x y n c : Int) (q : Value) : IBox (W.alloc (.cells #[.int .i64 a, .int .i64 r, b, p, .int .i64 x, .int .i64 y, .int .i64 n, .int .i64 c, q] 42)) W.heap.size a r b p x y n c q := World.alloc_heap_new W _
theorem IBox.alloc {W : World} {B : Nat} {a r x y n c : Int} {b p q : Value} (h : IBox W B a r b p x y n c q) (o : Obj) : IBox (W.alloc o) B a r b p x y n c q :=
  (((Below.refl W.heap.size W).alloc (Nat.le_refl _) o).block B (Array.getElem?_eq_some_iff.1 h).1).trans h

set_option maxHeartbeats 4000000 in
theorem vertexTurned_up (v : Vt.Vtx) (bv pv : Value) (n : Int) (c : Int) (s : List UInt8) (z : Nat) (q : UInt8) (W : World) (hb : BtsAt W bv v.2.2.1) (hp : TxAt W pv v.2.2.2.1) (mv : Vt.Mod v) (n1 : -9223372036854775808 ≤ n) (n2 : n ≤ 9223372036854775807) (hs : Vt.bytesR v n = (s, z))
    (h : ((z : Int) != 0) = true ∨ (z = 0 ∧ c < 0) ∨ (z = 0 ∧ 0 ≤ c ∧ (s.length : Int) ≤ c)) :
    Calls Try.prog 6 #[.agg #[.int .i64 v.1, .int .i64 v.2.1, bv, pv, .int .i64 v.2.2.2.2.1, .int .i64 v.2.2.2.2.2, .int .i64 n, .int .i64 c, Go.Proofs.Ytmhohnffaffdfaa.bv q]] W fun e W' => e = .returned (.bool true) ∧ Below W.heap.size W W' := by
  have HR := Lib.hid hs
  have HH := Lib.hid h
  clear hs h
  have MV := Lib.hid mv
  obtain ⟨a, r, bs, ps, x, y⟩ := v
  simp only [] at hb hp
  have HB := Lib.hid hb
  have HP := Lib.hid hp
  obtain ⟨m1, m2, rfl⟩ := hb.len
  obtain ⟨m3, m4, rfl⟩ := hp.len
  have I0 := Lib.hid ((IBox.new W a r (.slice m1 bs.length m2) (.slice m3 ps.length m4) x y n c (.int .u8 (q.toNat : Int))).alloc (.cells #[.int .i64 a, .int .i64 r, .slice m1 bs.length m2, .slice m3 ps.length m4, .int .i64 x, .int .i64 y] 28))
  have hv0 := VBox.new (W.alloc (.cells #[.int .i64 a, .int .i64 r, .slice m1 bs.length m2, .slice m3 ps.length m4, .int .i64 x, .int .i64 y, .int .i64 n, .int .i64 c, .int .u8 (q.toNat : Int)] 42)) a r (.slice m1 bs.length m2) (.slice m3 ps.length m4) x y
  rw [World.size_alloc] at hv0
  have A0 := Lib.hid hv0
  have HG := Lib.hid (show Below W.heap.size W ((W.alloc (.cells #[.int .i64 a, .int .i64 r, .slice m1 bs.length m2, .slice m3 ps.length m4, .int .i64 x, .int .i64 y, .int .i64 n, .int .i64 c, .int .u8 (q.toNat : Int)] 42)).alloc (.cells #[.int .i64 a, .int .i64 r, .slice m1 bs.length m2, .slice m3 ps.length m4, .int .i64 x, .int .i64 y] 28)) from ((Below.refl _ _).alloc (Nat.le_refl _) _).alloc (by simp) _)
  obtain ⟨k0, k1, k2, k3, k4, k5, k6, k7, k8⟩ := I0.out.cells
  clear hb hp mv hv0
  simp only [Go.Proofs.Ytmhohnffaffdfaa.bv]
  go_enter Try.func6, Try.ntmps6
  go_wp2_with fail
  refine (vtxShown _).mono ?_
  rintro e w1 ⟨rfl, g1⟩
  have A1 := Lib.hid (A0.out.kept g1)
  have G1 := Lib.hid (HG.out.trans (g1.mono (by simp; omega)))
  obtain ⟨c0, c1, c2, c3, c4, c5⟩ := A1.out.cells
  clear g1 k0 k1 k2 k3 k4 k5 k6 k7 k8
  go_wp2_with fail
  refine (pvbytes_eq (v := (a, r, bs, ps, x, y)) HR.out _ _ _ (HB.out.below G1.out) (HP.out.below G1.out) MV.out.b MV.out.s MV.out.p n1 n2).mono ?_
  rintro e w2 ⟨rfl, g2⟩
  have A2 := Lib.hid (A1.out.kept g2)
  have G2 := Lib.hid (grow_trans G1.out g2)
  clear g2 c0 c1 c2 c3 c4 c5
  rcases HH.out with h | ⟨rfl, h⟩ | ⟨rfl, h0, h⟩
  · go_wp2
    go_ret
    exact ⟨rfl, G2.out⟩
  · have t1 : decide (c < 0) = true := decide_eq_true h
    clear h
    go_wp2
    go_ret
    exact ⟨rfl, G2.out⟩
  · have t1 : decide (c < 0) = false := decide_eq_false (by omega)
    have t2 : decide ((s.length : Int) ≤ c) = true := decide_eq_true h
    clear h h0
    go_wp2
    go_ret
    exact ⟨rfl, G2.out⟩

set_option maxHeartbeats 4000000 in
theorem vertexTurned_same (v : Vt.Vtx) (bv pv : Value) (n : Int) (k : Nat) (q : UInt8) (W : World) (hb : BtsAt W bv v.2.2.1) (hp : TxAt W pv v.2.2.2.1) (mv : Vt.Mod v) (n1 : -9223372036854775808 ≤ n) (n2 : n ≤ 9223372036854775807) (hm : Vt.may v n = true) (hk : k < (Vt.bytes v).length) (hy : (Vt.bytes v)[k] = q) :
    Calls Try.prog 6 #[.agg #[.int .i64 v.1, .int .i64 v.2.1, bv, pv, .int .i64 v.2.2.2.2.1, .int .i64 v.2.2.2.2.2, .int .i64 n, .int .i64 k, Go.Proofs.Ytmhohnffaffdfaa.bv q]] W fun e W' => e = .returned (.bool true) ∧ Below W.heap.size W W' := by
  have HR := Lib.hid (Vt.bytesR_ok hm)
  have hsl := Vt.bytes_len hm
  clear hm
  have MV := Lib.hid mv
  obtain ⟨a, r, bs, ps, x, y⟩ := v
  generalize Vt.bytes (a, r, bs, ps, x, y) = s at *
  subst hy
  simp only [] at hb hp
  have HB := Lib.hid hb
  have HP := Lib.hid hp
  obtain ⟨m1, m2, rfl⟩ := hb.len
  obtain ⟨m3, m4, rfl⟩ := hp.len
  have I0 := Lib.hid ((IBox.new W a r (.slice m1 bs.length m2) (.slice m3 ps.length m4) x y n k (.int .u8 ((s[k]).toNat : Int))).alloc (.cells #[.int .i64 a, .int .i64 r, .slice m1 bs.length m2, .slice m3 ps.length m4, .int .i64 x, .int .i64 y] 28))
  have hv0 := VBox.new (W.alloc (.cells #[.int .i64 a, .int .i64 r, .slice m1 bs.length m2, .slice m3 ps.length m4, .int .i64 x, .int .i64 y, .int .i64 n, .int .i64 k, .int .u8 ((s[k]).toNat : Int)] 42)) a r (.slice m1 bs.length m2) (.slice m3 ps.length m4) x y
  rw [World.size_alloc] at hv0
  have A0 := Lib.hid hv0
  have HG := Lib.hid (show Below W.heap.size W ((W.alloc (.cells #[.int .i64 a, .int .i64 r, .slice m1 bs.length m2, .slice m3 ps.length m4, .int .i64 x, .int .i64 y, .int .i64 n, .int .i64 k, .int .u8 ((s[k]).toNat : Int)] 42)).alloc (.cells #[.int .i64 a, .int .i64 r, .slice m1 bs.length m2, .slice m3 ps.length m4, .int .i64 x, .int .i64 y] 28)) from ((Below.refl _ _).alloc (Nat.le_refl _) _).alloc (by simp) _)
  obtain ⟨k0, k1, k2, k3, k4, k5, k6, k7, k8⟩ := I0.out.cells
  clear hb hp mv hv0
  simp only [Go.Proofs.Ytmhohnffaffdfaa.bv]
  go_enter Try.func6, Try.ntmps6
  go_wp2_with fail
  refine (vtxShown _).mono ?_
  rintro e w1 ⟨rfl, g1⟩
  have A1 := Lib.hid (A0.out.kept g1)
  have G1 := Lib.hid (HG.out.trans (g1.mono (by simp; omega)))
  obtain ⟨c0, c1, c2, c3, c4, c5⟩ := A1.out.cells
  clear g1 k0 k1 k2 k3 k4 k5 k6 k7 k8
  go_wp2_with fail
  refine (pvbytes_eq (v := (a, r, bs, ps, x, y)) HR.out _ _ _ (HB.out.below G1.out) (HP.out.below G1.out) MV.out.b MV.out.s MV.out.p n1 n2).mono ?_
  rintro e w2 ⟨rfl, g2⟩
  have A2 := Lib.hid (A1.out.kept g2)
  have G2 := Lib.hid (grow_trans G1.out g2)
  clear g2 c0 c1 c2 c3 c4 c5
  go_wp2
  go_ret
  exact ⟨rfl, G2.out⟩

set_option maxHeartbeats 4000000 in
theorem vertexTurned_other (v : Vt.Vtx) (bv pv : Value) (n : Int) (k : Nat) (q : UInt8) (W : World) (hb : BtsAt W bv v.2.2.1) (hp : TxAt W pv v.2.2.2.1) (mv : Vt.Mod v) (n1 : -9223372036854775808 ≤ n) (n2 : n ≤ 9223372036854775807) (hm : Vt.may v n = true) (hk : k < (Vt.bytes v).length) (hy : (Vt.bytes v)[k] ≠ q) :
    Calls Try.prog 6 #[.agg #[.int .i64 v.1, .int .i64 v.2.1, bv, pv, .int .i64 v.2.2.2.2.1, .int .i64 v.2.2.2.2.2, .int .i64 n, .int .i64 k, Go.Proofs.Ytmhohnffaffdfaa.bv q]] W fun e W' => e = .returned (.bool true) ∧ Below W.heap.size W W' := by
  have HR := Lib.hid (Vt.bytesR_ok hm)
  have hsl := Vt.bytes_len hm
  have hn64 : n ≤ 4294967296 := by have := (Vt.fits hm).n2; omega
  obtain ⟨ht1, ht2⟩ := Vt.turned k q hm hk hy
  clear hm
  have MV := Lib.hid mv
  obtain ⟨a, r, bs, ps, x, y⟩ := v
  generalize Vt.bytes (a, r, bs, ps, x, y) = s at *
  obtain ⟨⟨⟨a', r', bs', ps', x', y'⟩, er⟩, hR⟩ : ∃ R, Vt.take (s.set k q) n = R := ⟨_, rfl⟩
  rw [hR] at ht1 ht2
  simp only [] at ht1 ht2
  have HT := Lib.hid hR
  have HF := Lib.hid (show (((a, r, bs, ps, x, y) : Vt.Vtx) == (a', r', bs', ps', x', y')) = false from beq_eq_false_iff_ne.2 fun e => ht1 e.symm)
  have t1 : decide ((k : Int) < 0) = false := decide_eq_false (by omega)
  have t2 : decide ((s.length : Int) ≤ k) = false := decide_eq_false (by omega)
  have t3 : ((s[k].toNat : Int) == (q.toNat : Int)) = false := by
    rw [beq_eq_false_iff_ne]
    intro e
    exact hy (UInt8.toNat_inj.1 (by omega))
  have HE := Lib.hid ht2
  clear ht1 hR hy ht2
  simp only [] at hb hp
  have HB := Lib.hid hb
  have HP := Lib.hid hp
  obtain ⟨m1, m2, rfl⟩ := hb.len
  obtain ⟨m3, m4, rfl⟩ := hp.len
  have I0 := Lib.hid ((IBox.new W a r (.slice m1 bs.length m2) (.slice m3 ps.length m4) x y n k (.int .u8 (q.toNat : Int))).alloc (.cells #[.int .i64 a, .int .i64 r, .slice m1 bs.length m2, .slice m3 ps.length m4, .int .i64 x, .int .i64 y] 28))
  have hv0 := VBox.new (W.alloc (.cells #[.int .i64 a, .int .i64 r, .slice m1 bs.length m2, .slice m3 ps.length m4, .int .i64 x, .int .i64 y, .int .i64 n, .int .i64 k, .int .u8 (q.toNat : Int)] 42)) a r (.slice m1 bs.length m2) (.slice m3 ps.length m4) x y
  rw [World.size_alloc] at hv0
  have A0 := Lib.hid hv0
  have HG := Lib.hid (show Below W.heap.size W ((W.alloc (.cells #[.int .i64 a, .int .i64 r, .slice m1 bs.length m2, .slice m3 ps.length m4, .int .i64 x, .int .i64 y, .int .i64 n, .int .i64 k, .int .u8 (q.toNat : Int)] 42)).alloc (.cells #[.int .i64 a, .int .i64 r, .slice m1 bs.length m2, .slice m3 ps.length m4, .int .i64 x, .int .i64 y] 28)) from ((Below.refl _ _).alloc (Nat.le_refl _) _).alloc (by simp) _)
  obtain ⟨k0, k1, k2, k3, k4, k5, k6, k7, k8⟩ := I0.out.cells
  clear hb hp mv hv0
  simp only [Go.Proofs.Ytmhohnffaffdfaa.bv]
  go_enter Try.func6, Try.ntmps6
  go_wp2_with fail
  refine (vtxShown _).mono ?_
  rintro e w1 ⟨rfl, g1⟩
  have A1 := Lib.hid (A0.out.kept g1)
  have G1 := Lib.hid (HG.out.trans (g1.mono (by simp; omega)))
  obtain ⟨c0, c1, c2, c3, c4, c5⟩ := A1.out.cells
  clear g1 k0 k1 k2 k3 k4 k5 k6 k7 k8
  go_wp2_with fail
  refine (pvbytes_eq (v := (a, r, bs, ps, x, y)) HR.out _ _ _ (HB.out.below G1.out) (HP.out.below G1.out) MV.out.b MV.out.s MV.out.p n1 n2).mono ?_
  rintro e w2 ⟨rfl, g2⟩
  have A2 := Lib.hid (A1.out.kept g2)
  have G2 := Lib.hid (grow_trans G1.out g2)
  clear g2 c0 c1 c2 c3 c4 c5
  obtain ⟨u, w3, hrun, hmk, g3⟩ := MarkRow.made (P := Try.prog) w2 9 43 5 s (by unfold maxLen; omega) Try.underlying9 Try.underlying43 Try.underlying5
  obtain ⟨g, cap, rfl, hgb, ⟨uc, hcell⟩, hfz, hmk2⟩ := hmk.store k hk q
  have G3 := Lib.hid ((grow_trans G2.out g3).setCell (p := ⟨g, k, none⟩) (show W.heap.size ≤ g by have := G2.out.size; omega) (Go.Proofs.Ytmhohnffaffdfaa.bv q))
  have A3 := Lib.hid ((A2.out.kept g3).below (((Below.refl w2.heap.size w3).setCell (p := ⟨g, k, none⟩) hgb (Go.Proofs.Ytmhohnffaffdfaa.bv q))) A2.out.lt)
  have htxt := hmk2.text
  simp only [Go.Proofs.Ytmhohnffaffdfaa.bv] at htxt
  have hln : k < s.length := hk
  clear hmk hmk2
  go_wp2_with fail
  refine (pvtake_eq HT.out (by rw [List.length_set]; omega) (.inl hn64) n1 n2 _).mono ?_
  rintro e w4 ⟨bu, pu, rfl, hbu, hpu, g4⟩
  simp only [] at hbu hpu
  have HBU := Lib.hid hbu
  have HPU := Lib.hid hpu
  obtain ⟨j1, j2, rfl⟩ := hbu.at.len
  obtain ⟨j3, j4, rfl⟩ := hpu.at.len
  have ga : Below w4.heap.size w4 (w4.alloc (.cells #[.int .i64 a', .int .i64 r', .slice j1 bs'.length j2, .slice j3 ps'.length j4, .int .i64 x', .int .i64 y'] 28)) := (Below.refl _ _).alloc (Nat.le_refl _) _
  have A4 := Lib.hid ((A3.out.kept g4).kept ga)
  have G4 := Lib.hid (grow_trans (grow_trans G3.out g4) ga)
  have HBU4 := Lib.hid (HBU.out.keep (Keeps.of ga))
  have HPU4 := Lib.hid (HPU.out.keepT (Keeps.of ga))
  obtain ⟨c0, c1, c2, c3, c4, c5⟩ := A4.out.cells
  clear htxt hrun hcell hfz g4 ga hbu hpu
  go_wp2_with fail
  refine (rvsame_eq (u := (a, r, bs, ps, x, y)) (v := (a', r', bs', ps', x', y')) HF.out _ _ _ _ _ (HB.out.below G4.out) (HP.out.below G4.out) HBU4.out.at HPU4.out.at MV.out.b MV.out.s MV.out.p).mono ?_
  rintro e w5 ⟨rfl, g5⟩
  have G5 := Lib.hid (grow_trans G4.out g5)
  clear g5 c0 c1 c2 c3 c4 c5
  rcases HE.out with rfl | rfl
  · go_wp2
    go_ret
    exact ⟨rfl, G5.out⟩
  · go_wp2
    go_ret
    exact ⟨rfl, G5.out⟩

theorem vertexTurned_walk {H : Type} (enc : TypeId × Value → H) (W : World) (base : Nat) (v0 : Value) (d0 : DataW H) (p0 : List MemPlace)
    (h0 : DataW.Trod enc Try.prog W 0 (fun _ => true) true 42 v0 d0 p0) (o0 : Value.okWide Try.prog W .any base 42 v0)
    (hsz : (DataW.weightsEach Try.prog [42] [d0]).all (· ≤ reachBytes) = true) :
    Calls Try.prog 6 #[v0] W fun e W' => e = .returned (.bool true) ∧ Below W.heap.size W W' := by
  obtain ⟨cs, rfl, hs⟩ := okWide_struct Try.underlying42 o0
  obtain ⟨fuel, hn⟩ := h0
  have hC : Try.prog.cellsOf 42 = 9 := by kernel_rfl
  have k1 : Try.prog.cellsOf 3 = 1 := by kernel_rfl
  have k2 : Try.prog.cellsOf 5 = 1 := by kernel_rfl
  have k3 : Try.prog.cellsOf 28 = 6 := by kernel_rfl
  obtain ⟨xs, m, _, hx, _, hlen, hf⟩ := DataW.trod_struct Try.underlying42 hn
  have hl : cs.toList.length = 9 := by simpa using hs.trans hC
  simp only [Value.cells] at hf
  obtain ⟨cl⟩ := cs
  simp only at hl hf
  simp only [Prod.mk.injEq] at hx
  obtain ⟨rfl, _⟩ := hx
  have hw := sized_at hsz (j := 0) rfl rfl
  match cl, hl, xs, hlen with
  | [e0, e1, e2, e3, e4, e5, e6, e7, e8], _, [y0, y1, y2, y3], _ =>
    have h0 := hf 0 _ rfl
    have h1 := hf 1 _ rfl
    have h2 := hf 2 _ rfl
    have h3 := hf 3 _ rfl
    simp only [List.map_cons, List.map_nil, DataW.weights, Try.underlying42] at hw
    obtain ⟨u, bu, pu, he, hbu, hpu, l1, l2, l3⟩ := elem_vtx (W := W) m [e0, e1, e2, e3, e4, e5] y0 rfl (by simpa [k3] using h0) (sized_at hw (j := 0) rfl rfl)
    simp only [List.cons.injEq, and_true] at he
    obtain ⟨rfl, rfl, rfl, rfl, rfl, rfl⟩ := he
    obtain ⟨n, n1, n2, rfl, _⟩ := trod_i64 (v := e6) (y := y1) Try.underlying3 (by simpa [k1] using h1)
    obtain ⟨c, c1, c2, rfl, _⟩ := trod_i64 (v := e7) (y := y2) Try.underlying3 (by simpa [k1] using h2)
    obtain ⟨q, rfl⟩ : ∃ q : UInt8, e8 = Go.Proofs.Ytmhohnffaffdfaa.bv q := by
      obtain ⟨z, hz, _, wz⟩ := DataW.trod_int Try.underlying5 (show DataW.trod enc Try.prog W 0 (fun _ => true) true m 5 [e8] = some y3 by simpa [k2] using h3)
      cases hz
      have hb : 0 ≤ z ∧ z ≤ 255 := by simpa [Lit.wf, IntKind.min, IntKind.max, IntKind.signed, IntKind.bits] using wz
      obtain ⟨q, rfl⟩ := Int.eq_ofNat_of_zero_le hb.1
      refine ⟨UInt8.ofNat q, ?_⟩
      have hn : q < 256 := by omega
      simp [Go.Proofs.Ytmhohnffaffdfaa.bv, UInt8.toNat_ofNat', Nat.mod_eq_of_lt hn]
    have mv : Vt.Mod u := ⟨by omega, l2, by omega⟩
    cases hm : Vt.may u n with
    | false => exact vertexTurned_up u _ _ n c [] 1 q W hbu hpu mv n1 n2 (Vt.bytesR_no hm) (.inl rfl)
    | true =>
      by_cases hc : c < 0
      · exact vertexTurned_up u _ _ n c _ 0 q W hbu hpu mv n1 n2 (Vt.bytesR_ok hm) (.inr (.inl ⟨rfl, hc⟩))
      · by_cases hl : ((Vt.bytes u).length : Int) ≤ c
        · exact vertexTurned_up u _ _ n c _ 0 q W hbu hpu mv n1 n2 (Vt.bytesR_ok hm) (.inr (.inr ⟨rfl, by omega, hl⟩))
        · obtain ⟨k, rfl⟩ := Int.eq_ofNat_of_zero_le (show 0 ≤ c by omega)
          have hk : k < (Vt.bytes u).length := by omega
          by_cases hy : (Vt.bytes u)[k] = q
          · exact vertexTurned_same u _ _ n k q W hbu hpu mv n1 n2 hm hk hy
          · exact vertexTurned_other u _ _ n k q W hbu hpu mv n1 n2 hm hk hy
end Go.Proofs.Ytmhohnffaffdfaa
