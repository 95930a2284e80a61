/- CertMeet: the walk. -/
import Derived.Test.YtflmfbcjmjlkbaaDoorCrB
namespace Go.Proofs.YtflmfbcjmjlkbaaDoor
open Go.RowKit Go.ChangeShapes Go.WideShapes Go.ChangeAt
set_option maxRecDepth 100000
attribute [local go_sem] ByteArray.mk_append_mk

/-- What came in, in a block. -/
def MBox (W : World) (B : Nat) (n : Int) (k : Value) (a r : Int) (b p : Value) (x y : Int) (s : Nat) (a' r' : Int) (b' p' : Value) (x' y' : Int) (s' : Nat) : Prop := W.heap[B]? = some (.cells #[.int .i64 n, k, .int .i64 a, .int .i64 r, b, p, .int .i64 x, .int .i64 y, .int .u64 s, .int .i64 a', .int .i64 r', b', p', .int .i64 x', .int .i64 y', .int .u64 s'] 49 (0, 0))
theorem MBox.cells {W : World} {B : Nat} {n : Int} {k : Value} {a r : Int} {b p : Value} {x y : Int} {s : Nat} {a' r' : Int} {b' p' : Value} {x' y' : Int} {s' : Nat} (h : MBox W B n k a r b p x y s a' r' b' p' x' y' s') : W.cell? ⟨B, 0, none⟩ = some (.int .i64 n) ∧ W.cell? ⟨B, 1, none⟩ = some k ∧ W.cell? ⟨B, 2, none⟩ = some (.int .i64 a) ∧ W.cell? ⟨B, 3, none⟩ = some (.int .i64 r) ∧ W.cell? ⟨B, 4, none⟩ = some b ∧ W.cell? ⟨B, 5, none⟩ = some p ∧ W.cell? ⟨B, 6, none⟩ = some (.int .i64 x) ∧ W.cell? ⟨B, 7, none⟩ = some (.int .i64 y) ∧ W.cell? ⟨B, 8, none⟩ = some (.int .u64 s) ∧ W.cell? ⟨B, 9, none⟩ = some (.int .i64 a') ∧ W.cell? ⟨B, 10, none⟩ = some (.int .i64 r') ∧ W.cell? ⟨B, 11, none⟩ = some b' ∧ W.cell? ⟨B, 12, none⟩ = some p' ∧ W.cell? ⟨B, 13, none⟩ = some (.int .i64 x') ∧ W.cell? ⟨B, 14, none⟩ = some (.int .i64 y') ∧ W.cell? ⟨B, 15, none⟩ = some (.int .u64 s') := by
  have e : W.heap[B]? = _ := h
  refine ⟨?_, ?_, ?_, ?_, ?_, ?_, ?_, ?_, ?_, ?_, ?_, ?_, ?_, ?_, ?_, ?_⟩ <;> simp [World.cell?, e]
theorem MBox.new (W : World) (n : Int) (k : Value) (a r : Int) (b p : Value) (x y : Int) (s : Nat) (a' r' : Int) (b' p' : Value) (x' y' : Int) (s' : Nat) : MBox (W.alloc (.cells #[.int .i64 n, k, .int .i64 a, .int .i64 r, b, p, .int .i64 x, .int .i64 y, .int .u64 s, .int .i64 a', .int .i64 r', b', p', .int .i64 x', .int .i64 y', .int .u64 s'] 49)) W.heap.size n k a r b p x y s a' r' b' p' x' y' s' := World.alloc_heap_new W _
theorem MBox.alloc {W : World} {B : Nat} {n : Int} {k : Value} {a r : Int} {b p : Value} {x y : Int} {s : Nat} {a' r' : Int} {b' p' : Value} {x' y' : Int} {s' : Nat} (h : MBox W B n k a r b p x y s a' r' b' p' x' y' s') (o : Obj) : MBox (W.alloc o) B n k a r b p x y s a' r' b' p' x' y' s' :=
  (((Below.refl W.heap.size W).alloc (Nat.le_refl _) o).block B (Array.getElem?_eq_some_iff.1 h).1).trans h

theorem rcount_eq {v c : Nat} (h : Se.count v = c) (hv : v < 18446744073709551616) (w : World) :
    Calls Tryd.prog 24 #[.int .u64 v] w fun e w' => e = .returned (.int .i64 c) ∧ Below w.heap.size w w' := by subst h; exact rcount_any v hv w
theorem rweak_eq {n q : Int} (h : Se.weak n = q) (h1 : -9223372036854775808 ≤ n) (h2 : n ≤ 9223372036854775807) (w : World) :
    Calls Tryd.prog 25 #[.int .i64 n] w fun e w' => e = .returned (.int .i64 q) ∧ w = w' := by subst h; exact rweak_any n h1 h2 w

set_option maxHeartbeats 4000000 in
theorem certMeet_no (n : Int) (b : List Bk.Sl) (p q : Cr.Prf) (bkv bv pv bv' pv' : Value) (W : World) (hk : FlatAt W bkv 2 (seals b)) (hl : b.length ≤ 140737488351232) (hb : BtsAt W bv p.1.2.2.1) (hp : TxAt W pv p.1.2.2.2.1) (mv : Vt.Mod p.1) (hx : p.2 < 18446744073709551616) (hb' : BtsAt W bv' q.1.2.2.1) (hp' : TxAt W pv' q.1.2.2.2.1) (mv' : Vt.Mod q.1) (hx' : q.2 < 18446744073709551616) (n1 : -9223372036854775808 ≤ n) (n2 : n ≤ 9223372036854775807) (hw : GW W) {c c' : Nat} (hc : Cr.check n b p = c) (hc' : Cr.check n b q = c') (h0 : c ≠ 0 ∨ (c = 0 ∧ c' ≠ 0)) :
    Calls Tryd.prog 5 #[.agg #[.int .i64 n, bkv, .int .i64 p.1.1, .int .i64 p.1.2.1, bv, pv, .int .i64 p.1.2.2.2.2.1, .int .i64 p.1.2.2.2.2.2, .int .u64 p.2, .int .i64 q.1.1, .int .i64 q.1.2.1, bv', pv', .int .i64 q.1.2.2.2.2.1, .int .i64 q.1.2.2.2.2.2, .int .u64 q.2]] W fun e W' => e = .returned (.bool true) ∧ Below W.heap.size W W' := by
  have HC := Lib.hid hc
  have HC' := Lib.hid hc'
  have H0 := Lib.hid h0
  clear hc hc' h0
  have HW := Lib.hid hw
  have MV := Lib.hid mv
  have MV' := Lib.hid mv'
  obtain ⟨v, x⟩ := p
  obtain ⟨v', x'⟩ := q

  obtain ⟨a, r, bs, ps, y, z⟩ := v
  obtain ⟨a', r', bs', ps', y', z'⟩ := v'
  simp only [] at hb hp hx hb' hp' hx'
  have HK := Lib.hid hk
  have HB := Lib.hid hb
  have HP := Lib.hid hp
  have HB' := Lib.hid hb'
  have HP' := Lib.hid hp'
  obtain ⟨m1, m2, rfl⟩ := hb.len
  obtain ⟨m3, m4, rfl⟩ := hp.len
  obtain ⟨m5, m6, rfl⟩ := hk.len (n := b.length) (seals_len b) (by omega)
  obtain ⟨m7, m8, rfl⟩ := hb'.len
  obtain ⟨m9, m10, rfl⟩ := hp'.len
  have I0 := Lib.hid (((MBox.new W n (.slice m5 b.length m6) a r (.slice m1 bs.length m2) (.slice m3 ps.length m4) y z x a' r' (.slice m7 bs'.length m8) (.slice m9 ps'.length m10) y' z' x').alloc (.cells #[.int .i64 a, .int .i64 r, .slice m1 bs.length m2, .slice m3 ps.length m4, .int .i64 y, .int .i64 z, .int .u64 x] 31)).alloc (.cells #[.int .i64 a', .int .i64 r', .slice m7 bs'.length m8, .slice m9 ps'.length m10, .int .i64 y', .int .i64 z', .int .u64 x'] 31))
  have hv0 := (PBox.new (W.alloc (.cells #[.int .i64 n, .slice m5 b.length m6, .int .i64 a, .int .i64 r, .slice m1 bs.length m2, .slice m3 ps.length m4, .int .i64 y, .int .i64 z, .int .u64 x, .int .i64 a', .int .i64 r', .slice m7 bs'.length m8, .slice m9 ps'.length m10, .int .i64 y', .int .i64 z', .int .u64 x'] 49)) a r (.slice m1 bs.length m2) (.slice m3 ps.length m4) y z x).alloc (.cells #[.int .i64 a', .int .i64 r', .slice m7 bs'.length m8, .slice m9 ps'.length m10, .int .i64 y', .int .i64 z', .int .u64 x'] 31)
  have hv1 := PBox.new ((W.alloc (.cells #[.int .i64 n, .slice m5 b.length m6, .int .i64 a, .int .i64 r, .slice m1 bs.length m2, .slice m3 ps.length m4, .int .i64 y, .int .i64 z, .int .u64 x, .int .i64 a', .int .i64 r', .slice m7 bs'.length m8, .slice m9 ps'.length m10, .int .i64 y', .int .i64 z', .int .u64 x'] 49)).alloc (.cells #[.int .i64 a, .int .i64 r, .slice m1 bs.length m2, .slice m3 ps.length m4, .int .i64 y, .int .i64 z, .int .u64 x] 31)) a' r' (.slice m7 bs'.length m8) (.slice m9 ps'.length m10) y' z' x'
  rw [World.size_alloc] at hv0
  rw [World.size_alloc, World.size_alloc] at hv1
  have A0 := Lib.hid hv0
  have D0 := Lib.hid hv1
  have HG := Lib.hid (show Below W.heap.size W (((W.alloc (.cells #[.int .i64 n, .slice m5 b.length m6, .int .i64 a, .int .i64 r, .slice m1 bs.length m2, .slice m3 ps.length m4, .int .i64 y, .int .i64 z, .int .u64 x, .int .i64 a', .int .i64 r', .slice m7 bs'.length m8, .slice m9 ps'.length m10, .int .i64 y', .int .i64 z', .int .u64 x'] 49)).alloc (.cells #[.int .i64 a, .int .i64 r, .slice m1 bs.length m2, .slice m3 ps.length m4, .int .i64 y, .int .i64 z, .int .u64 x] 31)).alloc (.cells #[.int .i64 a', .int .i64 r', .slice m7 bs'.length m8, .slice m9 ps'.length m10, .int .i64 y', .int .i64 z', .int .u64 x'] 31)) from (((Below.refl _ _).alloc (Nat.le_refl _) _).alloc (by simp) _).alloc (by simp; omega) _)
  obtain ⟨k0, k1, k2, k3, k4, k5, k6, k7, k8, k9, k10, k11, k12, k13, k14, k15⟩ := I0.out.cells
  clear hb hp hk mv hv0 hv1 hw hb' hp' mv'
  go_enter Tryd.func5, Tryd.ntmps5
  go_wp2_with fail
  refine (certShown _ (HW.out.below HG.out)).mono ?_
  rintro e w1 ⟨rfl, g1⟩
  have A1 := Lib.hid (A0.out.kept g1)
  have D1 := Lib.hid (D0.out.kept g1)
  have G1 := Lib.hid (HG.out.trans (g1.mono (by simp; omega)))
  obtain ⟨c0, c1, c2, c3, c4, c5, c6⟩ := A1.out.cells
  clear g1 k0 k1 k2 k3 k4 k5 k6 k7 k8 k9 k10 k11 k12 k13 k14 k15
  go_wp2_with fail
  refine (pcheck_eq (p := ((a, r, bs, ps, y, z), x)) HC.out _ _ _ _ (HK.out.below G1.out) hl (HB.out.below G1.out) (HP.out.below G1.out) MV.out hx n1 n2 (HW.out.below G1.out)).mono ?_
  rintro e w2 ⟨rfl, g2⟩
  have A2 := Lib.hid (A1.out.kept g2)
  have D2 := Lib.hid (D1.out.kept g2)
  have G2 := Lib.hid (grow_trans G1.out g2)
  clear g2 c0 c1 c2 c3 c4 c5 c6
  obtain ⟨d0, d1, d2, d3, d4, d5, d6⟩ := D2.out.cells
  go_wp2_with fail
  refine (pcheck_eq (p := ((a', r', bs', ps', y', z'), x')) HC'.out _ _ _ _ (HK.out.below G2.out) hl (HB'.out.below G2.out) (HP'.out.below G2.out) MV'.out hx' n1 n2 (HW.out.below G2.out)).mono ?_
  rintro e w3 ⟨rfl, g3⟩
  have A3 := Lib.hid (A2.out.kept g3)
  have D3 := Lib.hid (D2.out.kept g3)
  have G3 := Lib.hid (grow_trans G2.out g3)
  clear g3 d0 d1 d2 d3 d4 d5 d6
  rcases H0.out with h | ⟨rfl, h⟩
  · have t1 : ((c : Int) != 0) = true := by rw [bne_iff_ne]; omega
    clear h
    go_wp2
    go_ret
    exact ⟨rfl, G3.out⟩
  · have t1 : ((c' : Int) != 0) = true := by rw [bne_iff_ne]; omega
    clear h
    go_wp2
    go_ret
    exact ⟨rfl, G3.out⟩

set_option maxHeartbeats 4000000 in
theorem certMeet_yes (n : Int) (b : List Bk.Sl) (p q : Cr.Prf) (bkv bv pv bv' pv' : Value) (W : World) (hk : FlatAt W bkv 2 (seals b)) (hl : b.length ≤ 140737488351232) (hb : BtsAt W bv p.1.2.2.1) (hp : TxAt W pv p.1.2.2.2.1) (mv : Vt.Mod p.1) (hx : p.2 < 18446744073709551616) (hb' : BtsAt W bv' q.1.2.2.1) (hp' : TxAt W pv' q.1.2.2.2.1) (mv' : Vt.Mod q.1) (hx' : q.2 < 18446744073709551616) (n1 : -9223372036854775808 ≤ n) (n2 : n ≤ 9223372036854775807) (hw : GW W) (hc : Cr.check n b p = 0) (hc' : Cr.check n b q = 0) :
    Calls Tryd.prog 5 #[.agg #[.int .i64 n, bkv, .int .i64 p.1.1, .int .i64 p.1.2.1, bv, pv, .int .i64 p.1.2.2.2.2.1, .int .i64 p.1.2.2.2.2.2, .int .u64 p.2, .int .i64 q.1.1, .int .i64 q.1.2.1, bv', pv', .int .i64 q.1.2.2.2.2.1, .int .i64 q.1.2.2.2.2.2, .int .u64 q.2]] W fun e W' => e = .returned (.bool true) ∧ Below W.heap.size W W' := by

  have HW := Lib.hid hw
  have MV := Lib.hid mv
  have MV' := Lib.hid mv'
  obtain ⟨v, x⟩ := p
  obtain ⟨v', x'⟩ := q
  obtain ⟨hwk, ha1, ha2⟩ := Cr.meet hc hc'
  have hm1 := (Cr.fits_zero (Cr.check_zero hc).1).1
  have hm2 := (Cr.fits_zero (Cr.check_zero hc').1).1
  have HC := Lib.hid hc
  have HC' := Lib.hid hc'
  simp only [] at hwk ha1 ha2 hm1 hm2
  have hd1 := Vt.digestR_ok hm1
  have hd2 := Vt.digestR_ok hm2
  have l1 : (Cr.vdig v).length = 32 := sum_32 _
  have l2 : (Cr.vdig v').length = 32 := sum_32 _
  change Vt.digestR v n = (Cr.vdig v, 0) at hd1
  change Vt.digestR v' n = (Cr.vdig v', 0) at hd2
  generalize Cr.vdig v = g at *
  generalize Cr.vdig v' = g' at *
  have e1 := fun W => cat_run [121] g (by simp; omega) W
  have e2 := fun W => cat_run [121] g' (by simp; omega) W
  obtain ⟨t, ht⟩ : ∃ t, Cr.yd g = t := ⟨_, rfl⟩
  obtain ⟨t', ht'⟩ : ∃ t, Cr.yd g' = t := ⟨_, rfl⟩
  have ht1 : [121] ++ g = t := ht
  have ht2 : [121] ++ g' = t' := ht'
  rw [ht1] at e1
  rw [ht2] at e2
  rw [ht] at ha1
  rw [ht'] at ha2
  clear ht ht' ht1 ht2 l1 l2
  have hand := u64_and_nat x x' hx hx'
  have hml : x &&& x' < 18446744073709551616 := Nat.lt_of_le_of_lt Nat.and_le_left hx
  obtain ⟨k, hK⟩ : ∃ k, Se.weak n = k := ⟨_, rfl⟩
  obtain ⟨u, hU⟩ : ∃ u, Se.count (x &&& x') = u := ⟨_, rfl⟩
  rw [hK, hU] at hwk
  obtain ⟨m, hM⟩ : ∃ m, x &&& x' = m := ⟨_, rfl⟩
  rw [hM] at hand hml hU ha1 ha2
  clear hM
  have t1 : decide (k ≤ (u : Int)) = true := decide_eq_true hwk
  have HD := Lib.hid hd1
  have HD' := Lib.hid hd2
  have HU := Lib.hid hU
  have HQ := Lib.hid hK
  have HA := Lib.hid (show ∀ s, (s = t ∨ s = t') → Bk.all b m s = true from fun s h => h.elim (fun e => (congrArg (Bk.all b m) e).trans ha1) (fun e => (congrArg (Bk.all b m) e).trans ha2))
  clear hwk ha1 ha2 hm1 hm2 hd1 hd2 hK hU hc hc'
  obtain ⟨a, r, bs, ps, y, z⟩ := v
  obtain ⟨a', r', bs', ps', y', z'⟩ := v'
  simp only [] at hb hp hx hb' hp' hx'
  have HK := Lib.hid hk
  have HB := Lib.hid hb
  have HP := Lib.hid hp
  have HB' := Lib.hid hb'
  have HP' := Lib.hid hp'
  obtain ⟨m1, m2, rfl⟩ := hb.len
  obtain ⟨m3, m4, rfl⟩ := hp.len
  obtain ⟨m5, m6, rfl⟩ := hk.len (n := b.length) (seals_len b) (by omega)
  obtain ⟨m7, m8, rfl⟩ := hb'.len
  obtain ⟨m9, m10, rfl⟩ := hp'.len
  have I0 := Lib.hid (((MBox.new W n (.slice m5 b.length m6) a r (.slice m1 bs.length m2) (.slice m3 ps.length m4) y z x a' r' (.slice m7 bs'.length m8) (.slice m9 ps'.length m10) y' z' x').alloc (.cells #[.int .i64 a, .int .i64 r, .slice m1 bs.length m2, .slice m3 ps.length m4, .int .i64 y, .int .i64 z, .int .u64 x] 31)).alloc (.cells #[.int .i64 a', .int .i64 r', .slice m7 bs'.length m8, .slice m9 ps'.length m10, .int .i64 y', .int .i64 z', .int .u64 x'] 31))
  have hv0 := (PBox.new (W.alloc (.cells #[.int .i64 n, .slice m5 b.length m6, .int .i64 a, .int .i64 r, .slice m1 bs.length m2, .slice m3 ps.length m4, .int .i64 y, .int .i64 z, .int .u64 x, .int .i64 a', .int .i64 r', .slice m7 bs'.length m8, .slice m9 ps'.length m10, .int .i64 y', .int .i64 z', .int .u64 x'] 49)) a r (.slice m1 bs.length m2) (.slice m3 ps.length m4) y z x).alloc (.cells #[.int .i64 a', .int .i64 r', .slice m7 bs'.length m8, .slice m9 ps'.length m10, .int .i64 y', .int .i64 z', .int .u64 x'] 31)
  have hv1 := PBox.new ((W.alloc (.cells #[.int .i64 n, .slice m5 b.length m6, .int .i64 a, .int .i64 r, .slice m1 bs.length m2, .slice m3 ps.length m4, .int .i64 y, .int .i64 z, .int .u64 x, .int .i64 a', .int .i64 r', .slice m7 bs'.length m8, .slice m9 ps'.length m10, .int .i64 y', .int .i64 z', .int .u64 x'] 49)).alloc (.cells #[.int .i64 a, .int .i64 r, .slice m1 bs.length m2, .slice m3 ps.length m4, .int .i64 y, .int .i64 z, .int .u64 x] 31)) a' r' (.slice m7 bs'.length m8) (.slice m9 ps'.length m10) y' z' x'
  rw [World.size_alloc] at hv0
  rw [World.size_alloc, World.size_alloc] at hv1
  have A0 := Lib.hid hv0
  have D0 := Lib.hid hv1
  have HG := Lib.hid (show Below W.heap.size W (((W.alloc (.cells #[.int .i64 n, .slice m5 b.length m6, .int .i64 a, .int .i64 r, .slice m1 bs.length m2, .slice m3 ps.length m4, .int .i64 y, .int .i64 z, .int .u64 x, .int .i64 a', .int .i64 r', .slice m7 bs'.length m8, .slice m9 ps'.length m10, .int .i64 y', .int .i64 z', .int .u64 x'] 49)).alloc (.cells #[.int .i64 a, .int .i64 r, .slice m1 bs.length m2, .slice m3 ps.length m4, .int .i64 y, .int .i64 z, .int .u64 x] 31)).alloc (.cells #[.int .i64 a', .int .i64 r', .slice m7 bs'.length m8, .slice m9 ps'.length m10, .int .i64 y', .int .i64 z', .int .u64 x'] 31)) from (((Below.refl _ _).alloc (Nat.le_refl _) _).alloc (by simp) _).alloc (by simp; omega) _)
  obtain ⟨k0, k1, k2, k3, k4, k5, k6, k7, k8, k9, k10, k11, k12, k13, k14, k15⟩ := I0.out.cells
  clear hb hp hk mv hv0 hv1 hw hb' hp' mv'
  go_enter Tryd.func5, Tryd.ntmps5
  go_wp2_with fail
  refine (certShown _ (HW.out.below HG.out)).mono ?_
  rintro e w1 ⟨rfl, g1⟩
  have A1 := Lib.hid (A0.out.kept g1)
  have D1 := Lib.hid (D0.out.kept g1)
  have G1 := Lib.hid (HG.out.trans (g1.mono (by simp; omega)))
  obtain ⟨c0, c1, c2, c3, c4, c5, c6⟩ := A1.out.cells
  clear g1 k0 k1 k2 k3 k4 k5 k6 k7 k8 k9 k10 k11 k12 k13 k14 k15
  go_wp2_with fail
  refine (pcheck_eq (p := ((a, r, bs, ps, y, z), x)) HC.out _ _ _ _ (HK.out.below G1.out) hl (HB.out.below G1.out) (HP.out.below G1.out) MV.out hx n1 n2 (HW.out.below G1.out)).mono ?_
  rintro e w2 ⟨rfl, g2⟩
  have A2 := Lib.hid (A1.out.kept g2)
  have D2 := Lib.hid (D1.out.kept g2)
  have G2 := Lib.hid (grow_trans G1.out g2)
  clear g2 c0 c1 c2 c3 c4 c5 c6
  obtain ⟨d0, d1, d2, d3, d4, d5, d6⟩ := D2.out.cells
  go_wp2_with fail
  refine (pcheck_eq (p := ((a', r', bs', ps', y', z'), x')) HC'.out _ _ _ _ (HK.out.below G2.out) hl (HB'.out.below G2.out) (HP'.out.below G2.out) MV'.out hx' n1 n2 (HW.out.below G2.out)).mono ?_
  rintro e w3 ⟨rfl, g3⟩
  have A3 := Lib.hid (A2.out.kept g3)
  have D3 := Lib.hid (D2.out.kept g3)
  have G3 := Lib.hid (grow_trans G2.out g3)
  clear g3 d0 d1 d2 d3 d4 d5 d6
  obtain ⟨c0, c1, c2, c3, c4, c5, c6⟩ := A3.out.cells
  go_wp2_with fail
  refine (rvdigest_eq (v := (a, r, bs, ps, y, z)) (n := n) HD.out _ _ _ (HB.out.below G3.out) (HP.out.below G3.out) MV.out n1 n2).mono ?_
  rintro e w4 ⟨rfl, g4⟩
  have A4 := Lib.hid (A3.out.kept g4)
  have D4 := Lib.hid (D3.out.kept g4)
  have G4 := Lib.hid (grow_trans G3.out g4)
  clear g4 c0 c1 c2 c3 c4 c5 c6
  obtain ⟨d0, d1, d2, d3, d4, d5, d6⟩ := D4.out.cells
  go_wp2_with fail
  refine (rvdigest_eq (v := (a', r', bs', ps', y', z')) (n := n) HD'.out _ _ _ (HB'.out.below G4.out) (HP'.out.below G4.out) MV'.out n1 n2).mono ?_
  rintro e w5 ⟨rfl, g5⟩
  have A5 := Lib.hid (A4.out.kept g5)
  have D5 := Lib.hid (D4.out.kept g5)
  have G5 := Lib.hid (grow_trans G4.out g5)
  clear g5 d0 d1 d2 d3 d4 d5 d6
  obtain ⟨c0, c1, c2, c3, c4, c5, c6⟩ := A5.out.cells
  obtain ⟨d0, d1, d2, d3, d4, d5, d6⟩ := D5.out.cells
  go_wp2_with fail
  refine (rcount_eq HU.out hml _).mono ?_
  rintro e w6 ⟨rfl, g6⟩
  have G6 := Lib.hid (grow_trans G5.out g6)
  clear g6 c0 c1 c2 c3 c4 c5 c6 d0 d1 d2 d3 d4 d5 d6
  go_wp2_with fail
  refine (rweak_eq HQ.out n1 n2 _).mono ?_
  rintro e w7 ⟨rfl, rfl⟩
  go_wp2_with fail
  refine (rall_eq (HA.out t (.inl rfl)) _ (HK.out.below G6.out) hl hml).mono ?_
  rintro e w8 ⟨rfl, g8⟩
  have G8 := Lib.hid (grow_trans G6.out g8)
  clear g8
  go_wp2_with fail
  refine (rall_eq (HA.out t' (.inr rfl)) _ (HK.out.below G8.out) hl hml).mono ?_
  rintro e w9 ⟨rfl, g9⟩
  have G9 := Lib.hid (grow_trans G8.out g9)
  clear g9
  go_wp2
  go_ret
  exact ⟨rfl, G9.out⟩

theorem certMeet_walk {H : Type} (enc : TypeId × Value → H) (W : World) (base : Nat) (v0 : Value) (d0 : DataW H) (p0 : List MemPlace)
    (h0 : DataW.Trod enc Tryd.prog W 0 (fun _ => true) true 49 v0 d0 p0) (o0 : Value.okWide Tryd.prog W .any base 49 v0)
    (hsz : (DataW.weightsEach Tryd.prog [49] [d0]).all (· ≤ reachBytes) = true) (hg : GW W) :
    Calls Tryd.prog 5 #[v0] W fun e W' => e = .returned (.bool true) ∧ Below W.heap.size W W' := by
  obtain ⟨cs, rfl, hs⟩ := okWide_struct Tryd.underlying49 o0
  obtain ⟨fuel, hn⟩ := h0
  have hC : Tryd.prog.cellsOf 49 = 16 := by kernel_rfl
  have k1 : Tryd.prog.cellsOf 3 = 1 := by kernel_rfl
  have k2 : Tryd.prog.cellsOf 22 = 1 := by kernel_rfl
  have k3 : Tryd.prog.cellsOf 31 = 7 := by kernel_rfl
  obtain ⟨xs, m, _, hx, _, hlen, hf⟩ := DataW.trod_struct Tryd.underlying49 hn
  have hl : cs.toList.length = 16 := by simpa using hs.trans hC
  simp only [Value.cells] at hf
  obtain ⟨cl⟩ := cs
  simp only at hl hf
  simp only [Prod.mk.injEq] at hx
  obtain ⟨rfl, _⟩ := hx
  have hw := sized_at hsz (j := 0) rfl rfl
  match cl, hl, xs, hlen with
  | [e0, e1, e2, e3, e4, e5, e6, e7, e8, e9, e10, e11, e12, e13, e14, e15], _, [y0, y1, y2, y3], _ =>
    have h0 := hf 0 _ rfl
    have h1 := hf 1 _ rfl
    have h2 := hf 2 _ rfl
    have h3 := hf 3 _ rfl
    simp only [List.map_cons, List.map_nil, DataW.weights, Tryd.underlying49] at hw
    obtain ⟨n, n1, n2, rfl, _⟩ := trod_i64 (v := e0) (y := y0) Tryd.underlying3 (by simpa [k1] using h0)
    obtain ⟨b, hbk, _, hd⟩ := trod_seals (W := W) (v := e1) (y := y1) Tryd.underlying22 (by simpa [k2] using h1)
    have hbl := seals_reach hd (sized_at hw (j := 1) rfl rfl)
    obtain ⟨p, bv, pv, he, hbv, hpv, mv, hx⟩ := elem_prf (W := W) m [e2, e3, e4, e5, e6, e7, e8] y2 rfl (by simpa [k3] using h2) (sized_at hw (j := 2) rfl rfl)
    simp only [List.cons.injEq, and_true] at he
    obtain ⟨rfl, rfl, rfl, rfl, rfl, rfl, rfl⟩ := he
    obtain ⟨q, bv', pv', he, hbv', hpv', mv', hx'⟩ := elem_prf (W := W) m [e9, e10, e11, e12, e13, e14, e15] y3 rfl (by simpa [k3] using h3) (sized_at hw (j := 3) rfl rfl)
    simp only [List.cons.injEq, and_true] at he
    obtain ⟨rfl, rfl, rfl, rfl, rfl, rfl, rfl⟩ := he
    obtain ⟨c, hc⟩ : ∃ c, Cr.check n b p = c := ⟨_, rfl⟩
    obtain ⟨c', hc'⟩ : ∃ c, Cr.check n b q = c := ⟨_, rfl⟩
    by_cases h0 : c = 0
    · by_cases h0' : c' = 0
      · subst h0 h0'
        exact certMeet_yes n b p q _ _ _ _ _ W hbk.flat (by omega) hbv hpv mv hx hbv' hpv' mv' hx' n1 n2 hg hc hc'
      · exact certMeet_no n b p q _ _ _ _ _ W hbk.flat (by omega) hbv hpv mv hx hbv' hpv' mv' hx' n1 n2 hg hc hc' (.inr ⟨h0, h0'⟩)
    · exact certMeet_no n b p q _ _ _ _ _ W hbk.flat (by omega) hbv hpv mv hx hbv' hpv' mv' hx' n1 n2 hg hc hc' (.inl h0)
end Go.Proofs.YtflmfbcjmjlkbaaDoor
