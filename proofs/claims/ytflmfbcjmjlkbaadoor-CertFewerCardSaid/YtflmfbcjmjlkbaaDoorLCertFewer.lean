/- CertFewer: the walk. -/
import Derived.Test.YtflmfbcjmjlkbaaDoorCrB
namespace Go.Proofs.YtflmfbcjmjlkbaaDoor
open Go.RowKit Go.ChangeShapes Go.WideShapes Go.ChangeAt
set_option maxRecDepth 100000
attribute [local go_sem] ByteArray.mk_append_mk

/-- What came in, in a block. -/
def FBox (W : World) (B : Nat) (n : Int) (k : Value) (a r : Int) (b p : Value) (x y : Int) (s l : Nat) : Prop := W.heap[B]? = some (.cells #[.int .i64 n, k, .int .i64 a, .int .i64 r, b, p, .int .i64 x, .int .i64 y, .int .u64 s, .int .u64 l] 63 (0, 0))
theorem FBox.cells {W : World} {B : Nat} {n : Int} {k : Value} {a r : Int} {b p : Value} {x y : Int} {s l : Nat} (h : FBox W B n k a r b p x y s l) : W.cell? ⟨B, 0, none⟩ = some (.int .i64 n) ∧ W.cell? ⟨B, 1, none⟩ = some k ∧ W.cell? ⟨B, 2, none⟩ = some (.int .i64 a) ∧ W.cell? ⟨B, 3, none⟩ = some (.int .i64 r) ∧ W.cell? ⟨B, 4, none⟩ = some b ∧ W.cell? ⟨B, 5, none⟩ = some p ∧ W.cell? ⟨B, 6, none⟩ = some (.int .i64 x) ∧ W.cell? ⟨B, 7, none⟩ = some (.int .i64 y) ∧ W.cell? ⟨B, 8, none⟩ = some (.int .u64 s) ∧ W.cell? ⟨B, 9, none⟩ = some (.int .u64 l) := by
  have e : W.heap[B]? = _ := h
  refine ⟨?_, ?_, ?_, ?_, ?_, ?_, ?_, ?_, ?_, ?_⟩ <;> simp [World.cell?, e]
theorem FBox.new (W : World) (n : Int) (k : Value) (a r : Int) (b p : Value) (x y : Int) (s l : Nat) : FBox (W.alloc (.cells #[.int .i64 n, k, .int .i64 a, .int .i64 r, b, p, .int .i64 x, .int .i64 y, .int .u64 s, .int .u64 l] 63)) W.heap.size n k a r b p x y s l := World.alloc_heap_new W _
theorem FBox.alloc {W : World} {B : Nat} {n : Int} {k : Value} {a r : Int} {b p : Value} {x y : Int} {s l : Nat} (h : FBox W B n k a r b p x y s l) (o : Obj) : FBox (W.alloc o) B n k a r b p x y s l :=
  (((Below.refl W.heap.size W).alloc (Nat.le_refl _) o).block B (Array.getElem?_eq_some_iff.1 h).1).trans h

set_option maxHeartbeats 4000000 in
theorem certFewer_no (n : Int) (b : List Bk.Sl) (p : Cr.Prf) (l : Nat) (bkv bv pv : Value) (W : World) (hk : FlatAt W bkv 2 (seals b)) (hl : b.length ≤ 140737488351232) (hb : BtsAt W bv p.1.2.2.1) (hp : TxAt W pv p.1.2.2.2.1) (mv : Vt.Mod p.1) (hx : p.2 < 18446744073709551616) (n1 : -9223372036854775808 ≤ n) (n2 : n ≤ 9223372036854775807) (hw : GW W) {c : Nat} (hc : Cr.check n b p = c) (h0 : c ≠ 0) :
    Calls Tryd.prog 7 #[.agg #[.int .i64 n, bkv, .int .i64 p.1.1, .int .i64 p.1.2.1, bv, pv, .int .i64 p.1.2.2.2.2.1, .int .i64 p.1.2.2.2.2.2, .int .u64 p.2, .int .u64 l]] W fun e W' => e = .returned (.bool true) ∧ Below W.heap.size W W' := by
  have HC := Lib.hid hc
  have t1 : ((c : Int) != 0) = true := by rw [bne_iff_ne]; omega
  clear hc h0
  have HW := Lib.hid hw
  have MV := Lib.hid mv
  obtain ⟨v, x⟩ := p
  obtain ⟨a, r, bs, ps, y, z⟩ := v
  simp only [] at hb hp hx

  have HK := Lib.hid hk
  have HB := Lib.hid hb
  have HP := Lib.hid hp
  obtain ⟨m1, m2, rfl⟩ := hb.len
  obtain ⟨m3, m4, rfl⟩ := hp.len
  obtain ⟨m5, m6, rfl⟩ := hk.len (n := b.length) (seals_len b) (by omega)
  have I0 := Lib.hid ((FBox.new W n (.slice m5 b.length m6) a r (.slice m1 bs.length m2) (.slice m3 ps.length m4) y z x l).alloc (.cells #[.int .i64 a, .int .i64 r, .slice m1 bs.length m2, .slice m3 ps.length m4, .int .i64 y, .int .i64 z, .int .u64 x] 31))
  have hv0 := PBox.new (W.alloc (.cells #[.int .i64 n, .slice m5 b.length m6, .int .i64 a, .int .i64 r, .slice m1 bs.length m2, .slice m3 ps.length m4, .int .i64 y, .int .i64 z, .int .u64 x, .int .u64 l] 63)) a r (.slice m1 bs.length m2) (.slice m3 ps.length m4) y z x
  rw [World.size_alloc] at hv0
  have A0 := Lib.hid hv0
  have HG := Lib.hid (show Below W.heap.size W ((W.alloc (.cells #[.int .i64 n, .slice m5 b.length m6, .int .i64 a, .int .i64 r, .slice m1 bs.length m2, .slice m3 ps.length m4, .int .i64 y, .int .i64 z, .int .u64 x, .int .u64 l] 63)).alloc (.cells #[.int .i64 a, .int .i64 r, .slice m1 bs.length m2, .slice m3 ps.length m4, .int .i64 y, .int .i64 z, .int .u64 x] 31)) from ((Below.refl _ _).alloc (Nat.le_refl _) _).alloc (by simp) _)
  obtain ⟨k0, k1, k2, k3, k4, k5, k6, k7, k8, k9⟩ := I0.out.cells
  clear hb hp hk mv hv0 hw
  go_enter Tryd.func7, Tryd.ntmps7
  go_wp2_with fail
  refine (certShown _ (HW.out.below HG.out)).mono ?_
  rintro e w1 ⟨rfl, g1⟩
  have A1 := Lib.hid (A0.out.kept g1)
  have G1 := Lib.hid (HG.out.trans (g1.mono (by simp; omega)))
  obtain ⟨c0, c1, c2, c3, c4, c5, c6⟩ := A1.out.cells
  clear g1 k0 k1 k2 k3 k4 k5 k6 k7 k8 k9
  go_wp2_with fail
  refine (pcheck_eq (p := ((a, r, bs, ps, y, z), x)) HC.out _ _ _ _ (HK.out.below G1.out) hl (HB.out.below G1.out) (HP.out.below G1.out) MV.out hx n1 n2 (HW.out.below G1.out)).mono ?_
  rintro e w2 ⟨rfl, g2⟩
  have A2 := Lib.hid (A1.out.kept g2)
  have G2 := Lib.hid (grow_trans G1.out g2)
  clear g2 c0 c1 c2 c3 c4 c5 c6
  go_wp2
  go_ret
  exact ⟨rfl, G2.out⟩

theorem rcount_eq {v c : Nat} (h : Se.count v = c) (hv : v < 18446744073709551616) (w : World) :
    Calls Tryd.prog 24 #[.int .u64 v] w fun e w' => e = .returned (.int .i64 c) ∧ Below w.heap.size w w' := by subst h; exact rcount_any v hv w

set_option maxHeartbeats 4000000 in
theorem certFewer_yes (n : Int) (b : List Bk.Sl) (p : Cr.Prf) (l : Nat) (bkv bv pv : Value) (W : World) (hk : FlatAt W bkv 2 (seals b)) (hl : b.length ≤ 140737488351232) (hb : BtsAt W bv p.1.2.2.1) (hp : TxAt W pv p.1.2.2.2.1) (mv : Vt.Mod p.1) (hx : p.2 < 18446744073709551616) (n1 : -9223372036854775808 ≤ n) (n2 : n ≤ 9223372036854775807) (hw : GW W) (lx : l < 18446744073709551616) (hc : Cr.check n b p = 0) :
    Calls Tryd.prog 7 #[.agg #[.int .i64 n, bkv, .int .i64 p.1.1, .int .i64 p.1.2.1, bv, pv, .int .i64 p.1.2.2.2.2.1, .int .i64 p.1.2.2.2.2.2, .int .u64 p.2, .int .u64 l]] W fun e W' => e = .returned (.bool true) ∧ Below W.heap.size W W' := by

  have HW := Lib.hid hw
  have MV := Lib.hid mv
  obtain ⟨v, x⟩ := p
  obtain ⟨a, r, bs, ps, y, z⟩ := v
  simp only [] at hb hp hx
  obtain ⟨hq, hcf⟩ := Cr.fewer l hc
  have HC := Lib.hid hc
  simp only [] at hq hcf
  have hf : x - (x &&& l) < 18446744073709551616 := by omega
  have hand := u64_and_nat x l hx lx
  have hle : x &&& l ≤ x := Nat.and_le_left
  have hsub : IntKind.u64.wrap ((x : Int) - ((x &&& l : Nat) : Int)) = ((x - (x &&& l) : Nat) : Int) := by rw [IntKind.wrap_u64]; omega
  obtain ⟨q, hQ⟩ : ∃ q, Se.quorum n = q := ⟨_, rfl⟩
  obtain ⟨u1, hC1⟩ : ∃ c, Se.count x = c := ⟨_, rfl⟩
  obtain ⟨u2, hC2⟩ : ∃ c, Se.count (x - (x &&& l)) = c := ⟨_, rfl⟩
  rw [hQ, hC1] at hq
  rw [hQ, hC2] at hcf
  generalize x - (x &&& l) = f at *
  generalize x &&& l = m at *
  have HQ := Lib.hid hQ
  have HC1 := Lib.hid hC1
  have HC2 := Lib.hid hC2
  have t1 : decide (q ≤ (u1 : Int)) = true := decide_eq_true hq
  by_cases h2 : q ≤ (u2 : Int)
  · have t2 : decide (q ≤ (u2 : Int)) = true := decide_eq_true h2
    rw [if_pos h2] at hcf
    have HF := Lib.hid hcf
    clear hq h2 hcf hQ hC1 hC2 hle hc
    have HK := Lib.hid hk
    have HB := Lib.hid hb
    have HP := Lib.hid hp
    obtain ⟨m1, m2, rfl⟩ := hb.len
    obtain ⟨m3, m4, rfl⟩ := hp.len
    obtain ⟨m5, m6, rfl⟩ := hk.len (n := b.length) (seals_len b) (by omega)
    have I0 := Lib.hid ((FBox.new W n (.slice m5 b.length m6) a r (.slice m1 bs.length m2) (.slice m3 ps.length m4) y z x l).alloc (.cells #[.int .i64 a, .int .i64 r, .slice m1 bs.length m2, .slice m3 ps.length m4, .int .i64 y, .int .i64 z, .int .u64 x] 31))
    have hv0 := PBox.new (W.alloc (.cells #[.int .i64 n, .slice m5 b.length m6, .int .i64 a, .int .i64 r, .slice m1 bs.length m2, .slice m3 ps.length m4, .int .i64 y, .int .i64 z, .int .u64 x, .int .u64 l] 63)) a r (.slice m1 bs.length m2) (.slice m3 ps.length m4) y z x
    rw [World.size_alloc] at hv0
    have A0 := Lib.hid hv0
    have HG := Lib.hid (show Below W.heap.size W ((W.alloc (.cells #[.int .i64 n, .slice m5 b.length m6, .int .i64 a, .int .i64 r, .slice m1 bs.length m2, .slice m3 ps.length m4, .int .i64 y, .int .i64 z, .int .u64 x, .int .u64 l] 63)).alloc (.cells #[.int .i64 a, .int .i64 r, .slice m1 bs.length m2, .slice m3 ps.length m4, .int .i64 y, .int .i64 z, .int .u64 x] 31)) from ((Below.refl _ _).alloc (Nat.le_refl _) _).alloc (by simp) _)
    obtain ⟨k0, k1, k2, k3, k4, k5, k6, k7, k8, k9⟩ := I0.out.cells
    clear hb hp hk mv hv0 hw
    go_enter Tryd.func7, Tryd.ntmps7
    go_wp2_with fail
    refine (certShown _ (HW.out.below HG.out)).mono ?_
    rintro e w1 ⟨rfl, g1⟩
    have A1 := Lib.hid (A0.out.kept g1)
    have G1 := Lib.hid (HG.out.trans (g1.mono (by simp; omega)))
    obtain ⟨c0, c1, c2, c3, c4, c5, c6⟩ := A1.out.cells
    clear g1 k0 k1 k2 k3 k4 k5 k6 k7 k8 k9
    go_wp2_with fail
    refine (pcheck_eq (p := ((a, r, bs, ps, y, z), x)) HC.out _ _ _ _ (HK.out.below G1.out) hl (HB.out.below G1.out) (HP.out.below G1.out) MV.out hx n1 n2 (HW.out.below G1.out)).mono ?_
    rintro e w2 ⟨rfl, g2⟩
    have A2 := Lib.hid (A1.out.kept g2)
    have G2 := Lib.hid (grow_trans G1.out g2)
    clear g2 c0 c1 c2 c3 c4 c5 c6
    have g3 : Below w2.heap.size w2 (w2.alloc (.cells #[.int .i64 a, .int .i64 r, .slice m1 bs.length m2, .slice m3 ps.length m4, .int .i64 y, .int .i64 z, .int .u64 f] 31)) := (Below.refl _ _).alloc (Nat.le_refl _) _
    have A3 := Lib.hid (A2.out.kept g3)
    have N3 := Lib.hid (PBox.new w2 a r (.slice m1 bs.length m2) (.slice m3 ps.length m4) y z f)
    have G3 := Lib.hid (grow_trans G2.out g3)
    obtain ⟨c0, c1, c2, c3, c4, c5, c6⟩ := A2.out.cells
    go_wp2_with fail
    refine (rquorum_eq HQ.out n1 n2 _).mono ?_
    rintro e w2' ⟨rfl, rfl⟩
    clear g3
    go_wp2_with fail
    refine (pcheck_eq (p := ((a, r, bs, ps, y, z), f)) HF.out _ _ _ _ (HK.out.below G3.out) hl (HB.out.below G3.out) (HP.out.below G3.out) MV.out hf n1 n2 (HW.out.below G3.out)).mono ?_
    rintro e w4 ⟨rfl, g4⟩
    have A4 := Lib.hid (A3.out.kept g4)
    have N4 := Lib.hid (N3.out.kept g4)
    have G4 := Lib.hid (grow_trans G3.out g4)
    clear g4 c0 c1 c2 c3 c4 c5 c6
    obtain ⟨d0, d1, d2, d3, d4, d5, d6⟩ := N4.out.cells
    go_wp2_with fail
    refine (rcount_eq HC2.out hf _).mono ?_
    rintro e w5 ⟨rfl, g5⟩
    have A5 := Lib.hid (A4.out.kept g5)
    have G5 := Lib.hid (grow_trans G4.out g5)
    clear g5 d0 d1 d2 d3 d4 d5 d6
    obtain ⟨c0, c1, c2, c3, c4, c5, c6⟩ := A5.out.cells
    go_wp2_with fail
    refine (rcount_eq HC1.out hx _).mono ?_
    rintro e w6 ⟨rfl, g6⟩
    have G6 := Lib.hid (grow_trans G5.out g6)
    clear g6 c0 c1 c2 c3 c4 c5 c6
    go_wp2
    go_ret
    exact ⟨rfl, G6.out⟩
  · have t2 : decide (q ≤ (u2 : Int)) = false := decide_eq_false h2
    rw [if_neg h2] at hcf
    have HF := Lib.hid hcf
    clear hq h2 hcf hQ hC1 hC2 hle hc
    have HK := Lib.hid hk
    have HB := Lib.hid hb
    have HP := Lib.hid hp
    obtain ⟨m1, m2, rfl⟩ := hb.len
    obtain ⟨m3, m4, rfl⟩ := hp.len
    obtain ⟨m5, m6, rfl⟩ := hk.len (n := b.length) (seals_len b) (by omega)
    have I0 := Lib.hid ((FBox.new W n (.slice m5 b.length m6) a r (.slice m1 bs.length m2) (.slice m3 ps.length m4) y z x l).alloc (.cells #[.int .i64 a, .int .i64 r, .slice m1 bs.length m2, .slice m3 ps.length m4, .int .i64 y, .int .i64 z, .int .u64 x] 31))
    have hv0 := PBox.new (W.alloc (.cells #[.int .i64 n, .slice m5 b.length m6, .int .i64 a, .int .i64 r, .slice m1 bs.length m2, .slice m3 ps.length m4, .int .i64 y, .int .i64 z, .int .u64 x, .int .u64 l] 63)) a r (.slice m1 bs.length m2) (.slice m3 ps.length m4) y z x
    rw [World.size_alloc] at hv0
    have A0 := Lib.hid hv0
    have HG := Lib.hid (show Below W.heap.size W ((W.alloc (.cells #[.int .i64 n, .slice m5 b.length m6, .int .i64 a, .int .i64 r, .slice m1 bs.length m2, .slice m3 ps.length m4, .int .i64 y, .int .i64 z, .int .u64 x, .int .u64 l] 63)).alloc (.cells #[.int .i64 a, .int .i64 r, .slice m1 bs.length m2, .slice m3 ps.length m4, .int .i64 y, .int .i64 z, .int .u64 x] 31)) from ((Below.refl _ _).alloc (Nat.le_refl _) _).alloc (by simp) _)
    obtain ⟨k0, k1, k2, k3, k4, k5, k6, k7, k8, k9⟩ := I0.out.cells
    clear hb hp hk mv hv0 hw
    go_enter Tryd.func7, Tryd.ntmps7
    go_wp2_with fail
    refine (certShown _ (HW.out.below HG.out)).mono ?_
    rintro e w1 ⟨rfl, g1⟩
    have A1 := Lib.hid (A0.out.kept g1)
    have G1 := Lib.hid (HG.out.trans (g1.mono (by simp; omega)))
    obtain ⟨c0, c1, c2, c3, c4, c5, c6⟩ := A1.out.cells
    clear g1 k0 k1 k2 k3 k4 k5 k6 k7 k8 k9
    go_wp2_with fail
    refine (pcheck_eq (p := ((a, r, bs, ps, y, z), x)) HC.out _ _ _ _ (HK.out.below G1.out) hl (HB.out.below G1.out) (HP.out.below G1.out) MV.out hx n1 n2 (HW.out.below G1.out)).mono ?_
    rintro e w2 ⟨rfl, g2⟩
    have A2 := Lib.hid (A1.out.kept g2)
    have G2 := Lib.hid (grow_trans G1.out g2)
    clear g2 c0 c1 c2 c3 c4 c5 c6
    have g3 : Below w2.heap.size w2 (w2.alloc (.cells #[.int .i64 a, .int .i64 r, .slice m1 bs.length m2, .slice m3 ps.length m4, .int .i64 y, .int .i64 z, .int .u64 f] 31)) := (Below.refl _ _).alloc (Nat.le_refl _) _
    have A3 := Lib.hid (A2.out.kept g3)
    have N3 := Lib.hid (PBox.new w2 a r (.slice m1 bs.length m2) (.slice m3 ps.length m4) y z f)
    have G3 := Lib.hid (grow_trans G2.out g3)
    obtain ⟨c0, c1, c2, c3, c4, c5, c6⟩ := A2.out.cells
    go_wp2_with fail
    refine (rquorum_eq HQ.out n1 n2 _).mono ?_
    rintro e w2' ⟨rfl, rfl⟩
    clear g3
    go_wp2_with fail
    refine (pcheck_eq (p := ((a, r, bs, ps, y, z), f)) HF.out _ _ _ _ (HK.out.below G3.out) hl (HB.out.below G3.out) (HP.out.below G3.out) MV.out hf n1 n2 (HW.out.below G3.out)).mono ?_
    rintro e w4 ⟨rfl, g4⟩
    have A4 := Lib.hid (A3.out.kept g4)
    have N4 := Lib.hid (N3.out.kept g4)
    have G4 := Lib.hid (grow_trans G3.out g4)
    clear g4 c0 c1 c2 c3 c4 c5 c6
    obtain ⟨d0, d1, d2, d3, d4, d5, d6⟩ := N4.out.cells
    go_wp2_with fail
    refine (rcount_eq HC2.out hf _).mono ?_
    rintro e w5 ⟨rfl, g5⟩
    have A5 := Lib.hid (A4.out.kept g5)
    have G5 := Lib.hid (grow_trans G4.out g5)
    clear g5 d0 d1 d2 d3 d4 d5 d6
    obtain ⟨c0, c1, c2, c3, c4, c5, c6⟩ := A5.out.cells
    go_wp2_with fail
    refine (rcount_eq HC1.out hx _).mono ?_
    rintro e w6 ⟨rfl, g6⟩
    have G6 := Lib.hid (grow_trans G5.out g6)
    clear g6 c0 c1 c2 c3 c4 c5 c6
    go_wp2
    go_ret
    exact ⟨rfl, G6.out⟩

theorem certFewer_walk {H : Type} (enc : TypeId × Value → H) (W : World) (base : Nat) (v0 : Value) (d0 : DataW H) (p0 : List MemPlace)
    (h0 : DataW.Trod enc Tryd.prog W 0 (fun _ => true) true 63 v0 d0 p0) (o0 : Value.okWide Tryd.prog W .any base 63 v0)
    (hsz : (DataW.weightsEach Tryd.prog [63] [d0]).all (· ≤ reachBytes) = true) (hg : GW W) :
    Calls Tryd.prog 7 #[v0] W fun e W' => e = .returned (.bool true) ∧ Below W.heap.size W W' := by
  obtain ⟨cs, rfl, hs⟩ := okWide_struct Tryd.underlying63 o0
  obtain ⟨fuel, hn⟩ := h0
  have hC : Tryd.prog.cellsOf 63 = 10 := by kernel_rfl
  have k1 : Tryd.prog.cellsOf 3 = 1 := by kernel_rfl
  have k2 : Tryd.prog.cellsOf 22 = 1 := by kernel_rfl
  have k3 : Tryd.prog.cellsOf 31 = 7 := by kernel_rfl
  have k4 : Tryd.prog.cellsOf 29 = 1 := by kernel_rfl
  obtain ⟨xs, m, _, hx, _, hlen, hf⟩ := DataW.trod_struct Tryd.underlying63 hn
  have hl : cs.toList.length = 10 := by simpa using hs.trans hC
  simp only [Value.cells] at hf
  obtain ⟨cl⟩ := cs
  simp only at hl hf
  simp only [Prod.mk.injEq] at hx
  obtain ⟨rfl, _⟩ := hx
  have hw := sized_at hsz (j := 0) rfl rfl
  match cl, hl, xs, hlen with
  | [e0, e1, e2, e3, e4, e5, e6, e7, e8, e9], _, [y0, y1, y2, y3], _ =>
    have h0 := hf 0 _ rfl
    have h1 := hf 1 _ rfl
    have h2 := hf 2 _ rfl
    have h3 := hf 3 _ rfl
    simp only [List.map_cons, List.map_nil, DataW.weights, Tryd.underlying63] at hw
    obtain ⟨n, n1, n2, rfl, _⟩ := trod_i64 (v := e0) (y := y0) Tryd.underlying3 (by simpa [k1] using h0)
    obtain ⟨b, hbk, _, hd⟩ := trod_seals (W := W) (v := e1) (y := y1) Tryd.underlying22 (by simpa [k2] using h1)
    have hbl := seals_reach hd (sized_at hw (j := 1) rfl rfl)
    obtain ⟨p, bv, pv, he, hbv, hpv, mv, hx⟩ := elem_prf (W := W) m [e2, e3, e4, e5, e6, e7, e8] y2 rfl (by simpa [k3] using h2) (sized_at hw (j := 2) rfl rfl)
    simp only [List.cons.injEq, and_true] at he
    obtain ⟨rfl, rfl, rfl, rfl, rfl, rfl, rfl⟩ := he
    obtain ⟨l, rfl, lx⟩ : ∃ l : Nat, e9 = .int .u64 l ∧ l < 18446744073709551616 := by
      obtain ⟨z, hz, _, wz⟩ := DataW.trod_int Tryd.underlying29 (show DataW.trod enc Tryd.prog W 0 (fun _ => true) true m 29 [e9] = some y3 by simpa [k4] using h3)
      cases hz
      have hb2 : 0 ≤ z ∧ z ≤ 18446744073709551615 := by simpa [Lit.wf, IntKind.min, IntKind.max, IntKind.signed, IntKind.bits] using wz
      obtain ⟨q, rfl⟩ := Int.eq_ofNat_of_zero_le hb2.1
      exact ⟨q, rfl, by omega⟩
    obtain ⟨c, hc⟩ : ∃ c, Cr.check n b p = c := ⟨_, rfl⟩
    by_cases h0 : c = 0
    · subst h0
      exact certFewer_yes n b p l _ _ _ W hbk.flat (by omega) hbv hpv mv hx n1 n2 hg lx hc
    · exact certFewer_no n b p l _ _ _ W hbk.flat (by omega) hbv hpv mv hx n1 n2 hg hc h0
end Go.Proofs.YtflmfbcjmjlkbaaDoor
