/- VertexBack: the walk. -/
import Derived.Test.YtmhohnffaffdfaaVtxShown
namespace Go.Proofs.Ytmhohnffaffdfaa
open Go.RowKit Go.ChangeShapes Go.WideShapes Go.ChangeAt
set_option maxRecDepth 100000
attribute [local go_sem] ByteArray.mk_append_mk

set_option maxHeartbeats 2000000 in
theorem vertexBack_no (v : Vt.Vtx) (bv pv : Value) (n c : Int) (W : World) (hb : BtsAt W bv v.2.2.1) (hp : TxAt W pv v.2.2.2.1) (mv : Vt.Mod v) (n1 : -9223372036854775808 ≤ n) (n2 : n ≤ 9223372036854775807) (hm : Vt.may v n = false) :
    Calls Try.prog 4 #[vtxV v.1 v.2.1 bv pv v.2.2.2.2.1 v.2.2.2.2.2, .int .i64 n, .int .i64 c] W fun e W' => e = .returned (.bool true) ∧ Below W.heap.size W W' := by
  have HR := Lib.hid (Vt.bytesR_no hm)
  have HM := Lib.hid hm
  have MV := Lib.hid mv
  obtain ⟨a, r, bs, ps, x, y⟩ := v
  simp only [] at hb hp
  have HB := Lib.hid hb
  have HP := Lib.hid hp
  obtain ⟨m1, m2, rfl⟩ := hb.len
  obtain ⟨m3, m4, rfl⟩ := hp.len
  have A0 := Lib.hid (VBox.new W a r (.slice m1 bs.length m2) (.slice m3 ps.length m4) x y)
  have HG := Lib.hid (show Below W.heap.size W (W.alloc (.cells #[.int .i64 a, .int .i64 r, .slice m1 bs.length m2, .slice m3 ps.length m4, .int .i64 x, .int .i64 y] 28)) from (Below.refl _ _).alloc (Nat.le_refl _) _)
  clear hb hp hm mv
  go_enter Try.func4, Try.ntmps4
  go_wp2_with fail
  refine (vtxShown _).mono ?_
  rintro e w1 ⟨rfl, g1⟩
  have A1 := Lib.hid (A0.out.kept g1)
  have G1 := Lib.hid (HG.out.trans (g1.mono (by simp)))
  obtain ⟨c0, c1, c2, c3, c4, c5⟩ := A1.out.cells
  clear g1
  go_wp2_with fail
  refine (pvbytes_eq (v := (a, r, bs, ps, x, y)) HR.out _ _ _ (HB.out.below G1.out) (HP.out.below G1.out) MV.out.b MV.out.s MV.out.p n1 n2).mono ?_
  rintro e w2 ⟨rfl, g2⟩
  have A2 := Lib.hid (A1.out.kept g2)
  have G2 := Lib.hid (grow_trans G1.out g2)
  clear g2 c0 c1 c2 c3 c4 c5
  obtain ⟨c0, c1, c2, c3, c4, c5⟩ := A2.out.cells
  go_wp2_with fail
  refine (pvmay_eq (v := (a, r, bs, ps, x, y)) HM.out _ _ _ (HB.out.below G2.out) (HP.out.below G2.out) MV.out.b MV.out.s MV.out.p n1 n2).mono ?_
  rintro e w3 ⟨rfl, g3⟩
  have G3 := Lib.hid (grow_trans G2.out g3)
  clear g3
  go_wp2
  go_ret
  exact ⟨rfl, G3.out⟩

set_option maxHeartbeats 4000000 in
theorem vertexBack_neg (v : Vt.Vtx) (bv pv : Value) (n : Int) (c : Int) (hc : c < 0) (W : World) (hb : BtsAt W bv v.2.2.1) (hp : TxAt W pv v.2.2.2.1) (mv : Vt.Mod v) (n1 : -9223372036854775808 ≤ n) (n2 : n ≤ 9223372036854775807) (hm : Vt.may v n = true) :
    Calls Try.prog 4 #[vtxV v.1 v.2.1 bv pv v.2.2.2.2.1 v.2.2.2.2.2, .int .i64 n, .int .i64 c] W fun e W' => e = .returned (.bool true) ∧ Below W.heap.size W W' := by
  have HR := Lib.hid (Vt.bytesR_ok hm)
  have HT := Lib.hid (Vt.back hm)
  have HT0 := Lib.hid (Vt.longer [0] hm (by simp))
  have hsl := Vt.bytes_len hm
  have hcut := fun k h => Vt.cut k hm h
  have hn64 : n ≤ 4294967296 := by have := (Vt.fits hm).n2; omega
  have MV := Lib.hid mv
  obtain ⟨a, r, bs, ps, x, y⟩ := v
  generalize Vt.bytes (a, r, bs, ps, x, y) = s at *
  simp only [] at hb hp
  have HB := Lib.hid hb
  have HP := Lib.hid hp
  obtain ⟨m1, m2, rfl⟩ := hb.len
  obtain ⟨m3, m4, rfl⟩ := hp.len
  have A0 := Lib.hid (VBox.new W a r (.slice m1 bs.length m2) (.slice m3 ps.length m4) x y)
  have HG := Lib.hid (show Below W.heap.size W (W.alloc (.cells #[.int .i64 a, .int .i64 r, .slice m1 bs.length m2, .slice m3 ps.length m4, .int .i64 x, .int .i64 y] 28)) from (Below.refl _ _).alloc (Nat.le_refl _) _)
  have t1 : decide (c < 0) = true := decide_eq_true hc
  clear hc
  clear hb hp hm mv hcut
  go_enter Try.func4, Try.ntmps4
  go_wp2_with fail
  refine (vtxShown _).mono ?_
  rintro e w1 ⟨rfl, g1⟩
  have A1 := Lib.hid (A0.out.kept g1)
  have G1 := Lib.hid (HG.out.trans (g1.mono (by simp)))
  obtain ⟨c0, c1, c2, c3, c4, c5⟩ := A1.out.cells
  clear g1
  go_wp2_with fail
  refine (pvbytes_eq (v := (a, r, bs, ps, x, y)) HR.out _ _ _ (HB.out.below G1.out) (HP.out.below G1.out) MV.out.b MV.out.s MV.out.p n1 n2).mono ?_
  rintro e w2 ⟨rfl, g2⟩
  have A2 := Lib.hid (A1.out.kept g2)
  have G2 := Lib.hid (grow_trans G1.out g2)
  clear g2 c0 c1 c2 c3 c4 c5
  go_wp2_with fail
  refine (pvtake_eq HT.out (by omega) (.inl hn64) n1 n2 _).mono ?_
  rintro e w3 ⟨bu, pu, rfl, hbu, hpu, g3⟩
  simp only [] at hbu hpu
  have HBU := Lib.hid hbu
  have HPU := Lib.hid hpu
  obtain ⟨k1, k2, rfl⟩ := hbu.at.len
  obtain ⟨k3, k4, rfl⟩ := hpu.at.len
  have ga : Below w3.heap.size w3 (w3.alloc (.cells #[.int .i64 a, .int .i64 r, .slice k1 bs.length k2, .slice k3 ps.length k4, .int .i64 x, .int .i64 y] 28)) := (Below.refl _ _).alloc (Nat.le_refl _) _
  have A3 := Lib.hid ((A2.out.kept g3).kept ga)
  have G3 := Lib.hid (grow_trans (grow_trans G2.out g3) ga)
  have HBU3 := Lib.hid (HBU.out.keep (Keeps.of ga))
  have HPU3 := Lib.hid (HPU.out.keepT (Keeps.of ga))
  obtain ⟨c0, c1, c2, c3, c4, c5⟩ := A3.out.cells
  clear g3 ga hbu hpu
  go_wp2_with fail
  refine (rvsame_eq (u := (a, r, bs, ps, x, y)) (v := (a, r, bs, ps, x, y)) (beq_self_eq_true _) _ _ _ _ _ HBU3.out.at HPU3.out.at (HB.out.below G3.out) (HP.out.below G3.out) MV.out.b MV.out.s MV.out.p).mono ?_
  rintro e w4 ⟨rfl, g4⟩
  have G4 := Lib.hid (grow_trans G3.out g4)
  clear g4 c0 c1 c2 c3 c4 c5 A2 A3
  go_wp2_with fail
  refine (pvtake_eq HT0.out (by simp; omega) (.inl hn64) n1 n2 _).mono ?_
  rintro e w5 ⟨bu, pu, rfl, hbu, hpu, g5⟩
  simp only [Vt.none] at hbu hpu
  obtain ⟨k5, k6, rfl⟩ := hbu.at.len
  obtain ⟨k7, k8, rfl⟩ := hpu.at.len
  have G5 := Lib.hid ((grow_trans G4.out g5).alloc (grow_trans G4.out g5).size (.cells #[.int .i64 0, .int .i64 0, .slice k5 0 k6, .slice k7 0 k8, .int .i64 0, .int .i64 0] 28))
  clear g5 hbu hpu
  go_wp2
  go_ret
  exact ⟨rfl, G5.out⟩

set_option maxHeartbeats 4000000 in
theorem vertexBack_far (v : Vt.Vtx) (bv pv : Value) (n : Int) (k : Nat) (c : Int) (hc : c = k) (hk : (Vt.bytes v).length ≤ k) (W : World) (hb : BtsAt W bv v.2.2.1) (hp : TxAt W pv v.2.2.2.1) (mv : Vt.Mod v) (n1 : -9223372036854775808 ≤ n) (n2 : n ≤ 9223372036854775807) (hm : Vt.may v n = true) :
    Calls Try.prog 4 #[vtxV v.1 v.2.1 bv pv v.2.2.2.2.1 v.2.2.2.2.2, .int .i64 n, .int .i64 c] W fun e W' => e = .returned (.bool true) ∧ Below W.heap.size W W' := by
  have HR := Lib.hid (Vt.bytesR_ok hm)
  have HT := Lib.hid (Vt.back hm)
  have HT0 := Lib.hid (Vt.longer [0] hm (by simp))
  have hsl := Vt.bytes_len hm
  have hcut := fun k h => Vt.cut k hm h
  have hn64 : n ≤ 4294967296 := by have := (Vt.fits hm).n2; omega
  have MV := Lib.hid mv
  obtain ⟨a, r, bs, ps, x, y⟩ := v
  generalize Vt.bytes (a, r, bs, ps, x, y) = s at *
  simp only [] at hb hp
  have HB := Lib.hid hb
  have HP := Lib.hid hp
  obtain ⟨m1, m2, rfl⟩ := hb.len
  obtain ⟨m3, m4, rfl⟩ := hp.len
  have A0 := Lib.hid (VBox.new W a r (.slice m1 bs.length m2) (.slice m3 ps.length m4) x y)
  have HG := Lib.hid (show Below W.heap.size W (W.alloc (.cells #[.int .i64 a, .int .i64 r, .slice m1 bs.length m2, .slice m3 ps.length m4, .int .i64 x, .int .i64 y] 28)) from (Below.refl _ _).alloc (Nat.le_refl _) _)
  subst hc
  have t1 : decide ((k : Int) < 0) = false := decide_eq_false (by omega)
  clear hb hp hm mv hcut
  go_enter Try.func4, Try.ntmps4
  go_wp2_with fail
  refine (vtxShown _).mono ?_
  rintro e w1 ⟨rfl, g1⟩
  have A1 := Lib.hid (A0.out.kept g1)
  have G1 := Lib.hid (HG.out.trans (g1.mono (by simp)))
  obtain ⟨c0, c1, c2, c3, c4, c5⟩ := A1.out.cells
  clear g1
  go_wp2_with fail
  refine (pvbytes_eq (v := (a, r, bs, ps, x, y)) HR.out _ _ _ (HB.out.below G1.out) (HP.out.below G1.out) MV.out.b MV.out.s MV.out.p n1 n2).mono ?_
  rintro e w2 ⟨rfl, g2⟩
  have A2 := Lib.hid (A1.out.kept g2)
  have G2 := Lib.hid (grow_trans G1.out g2)
  clear g2 c0 c1 c2 c3 c4 c5
  go_wp2_with fail
  refine (pvtake_eq HT.out (by omega) (.inl hn64) n1 n2 _).mono ?_
  rintro e w3 ⟨bu, pu, rfl, hbu, hpu, g3⟩
  simp only [] at hbu hpu
  have HBU := Lib.hid hbu
  have HPU := Lib.hid hpu
  obtain ⟨k1, k2, rfl⟩ := hbu.at.len
  obtain ⟨k3, k4, rfl⟩ := hpu.at.len
  have ga : Below w3.heap.size w3 (w3.alloc (.cells #[.int .i64 a, .int .i64 r, .slice k1 bs.length k2, .slice k3 ps.length k4, .int .i64 x, .int .i64 y] 28)) := (Below.refl _ _).alloc (Nat.le_refl _) _
  have A3 := Lib.hid ((A2.out.kept g3).kept ga)
  have G3 := Lib.hid (grow_trans (grow_trans G2.out g3) ga)
  have HBU3 := Lib.hid (HBU.out.keep (Keeps.of ga))
  have HPU3 := Lib.hid (HPU.out.keepT (Keeps.of ga))
  obtain ⟨c0, c1, c2, c3, c4, c5⟩ := A3.out.cells
  clear g3 ga hbu hpu
  go_wp2_with fail
  refine (rvsame_eq (u := (a, r, bs, ps, x, y)) (v := (a, r, bs, ps, x, y)) (beq_self_eq_true _) _ _ _ _ _ HBU3.out.at HPU3.out.at (HB.out.below G3.out) (HP.out.below G3.out) MV.out.b MV.out.s MV.out.p).mono ?_
  rintro e w4 ⟨rfl, g4⟩
  have G4 := Lib.hid (grow_trans G3.out g4)
  clear g4 c0 c1 c2 c3 c4 c5 A2 A3
  go_wp2_with fail
  refine (pvtake_eq HT0.out (by simp; omega) (.inl hn64) n1 n2 _).mono ?_
  rintro e w5 ⟨bu, pu, rfl, hbu, hpu, g5⟩
  simp only [Vt.none] at hbu hpu
  obtain ⟨k5, k6, rfl⟩ := hbu.at.len
  obtain ⟨k7, k8, rfl⟩ := hpu.at.len
  have G5 := Lib.hid ((grow_trans G4.out g5).alloc (grow_trans G4.out g5).size (.cells #[.int .i64 0, .int .i64 0, .slice k5 0 k6, .slice k7 0 k8, .int .i64 0, .int .i64 0] 28))
  clear g5 hbu hpu
  go_wp2
  go_ret
  exact ⟨rfl, G5.out⟩

set_option maxHeartbeats 4000000 in
theorem vertexBack_cut (v : Vt.Vtx) (bv pv : Value) (n : Int) (k : Nat) (c : Int) (hc : c = k) (hk : k < (Vt.bytes v).length) (W : World) (hb : BtsAt W bv v.2.2.1) (hp : TxAt W pv v.2.2.2.1) (mv : Vt.Mod v) (n1 : -9223372036854775808 ≤ n) (n2 : n ≤ 9223372036854775807) (hm : Vt.may v n = true) :
    Calls Try.prog 4 #[vtxV v.1 v.2.1 bv pv v.2.2.2.2.1 v.2.2.2.2.2, .int .i64 n, .int .i64 c] W fun e W' => e = .returned (.bool true) ∧ Below W.heap.size W W' := by
  have HR := Lib.hid (Vt.bytesR_ok hm)
  have HT := Lib.hid (Vt.back hm)
  have HT0 := Lib.hid (Vt.longer [0] hm (by simp))
  have hsl := Vt.bytes_len hm
  have hcut := fun k h => Vt.cut k hm h
  have hn64 : n ≤ 4294967296 := by have := (Vt.fits hm).n2; omega
  have MV := Lib.hid mv
  obtain ⟨a, r, bs, ps, x, y⟩ := v
  generalize Vt.bytes (a, r, bs, ps, x, y) = s at *
  simp only [] at hb hp
  have HB := Lib.hid hb
  have HP := Lib.hid hp
  obtain ⟨m1, m2, rfl⟩ := hb.len
  obtain ⟨m3, m4, rfl⟩ := hp.len
  have A0 := Lib.hid (VBox.new W a r (.slice m1 bs.length m2) (.slice m3 ps.length m4) x y)
  have HG := Lib.hid (show Below W.heap.size W (W.alloc (.cells #[.int .i64 a, .int .i64 r, .slice m1 bs.length m2, .slice m3 ps.length m4, .int .i64 x, .int .i64 y] 28)) from (Below.refl _ _).alloc (Nat.le_refl _) _)
  subst hc
  have HC := Lib.hid (hcut k hk)
  clear hb hp hm mv hcut
  go_enter Try.func4, Try.ntmps4
  go_wp2_with fail
  refine (vtxShown _).mono ?_
  rintro e w1 ⟨rfl, g1⟩
  have A1 := Lib.hid (A0.out.kept g1)
  have G1 := Lib.hid (HG.out.trans (g1.mono (by simp)))
  obtain ⟨c0, c1, c2, c3, c4, c5⟩ := A1.out.cells
  clear g1
  go_wp2_with fail
  refine (pvbytes_eq (v := (a, r, bs, ps, x, y)) HR.out _ _ _ (HB.out.below G1.out) (HP.out.below G1.out) MV.out.b MV.out.s MV.out.p n1 n2).mono ?_
  rintro e w2 ⟨rfl, g2⟩
  have A2 := Lib.hid (A1.out.kept g2)
  have G2 := Lib.hid (grow_trans G1.out g2)
  clear g2 c0 c1 c2 c3 c4 c5
  go_wp2_with fail
  refine (pvtake_eq HT.out (by omega) (.inl hn64) n1 n2 _).mono ?_
  rintro e w3 ⟨bu, pu, rfl, hbu, hpu, g3⟩
  simp only [] at hbu hpu
  have HBU := Lib.hid hbu
  have HPU := Lib.hid hpu
  obtain ⟨k1, k2, rfl⟩ := hbu.at.len
  obtain ⟨k3, k4, rfl⟩ := hpu.at.len
  have ga : Below w3.heap.size w3 (w3.alloc (.cells #[.int .i64 a, .int .i64 r, .slice k1 bs.length k2, .slice k3 ps.length k4, .int .i64 x, .int .i64 y] 28)) := (Below.refl _ _).alloc (Nat.le_refl _) _
  have A3 := Lib.hid ((A2.out.kept g3).kept ga)
  have G3 := Lib.hid (grow_trans (grow_trans G2.out g3) ga)
  have HBU3 := Lib.hid (HBU.out.keep (Keeps.of ga))
  have HPU3 := Lib.hid (HPU.out.keepT (Keeps.of ga))
  obtain ⟨c0, c1, c2, c3, c4, c5⟩ := A3.out.cells
  clear g3 ga hbu hpu
  go_wp2_with fail
  refine (rvsame_eq (u := (a, r, bs, ps, x, y)) (v := (a, r, bs, ps, x, y)) (beq_self_eq_true _) _ _ _ _ _ HBU3.out.at HPU3.out.at (HB.out.below G3.out) (HP.out.below G3.out) MV.out.b MV.out.s MV.out.p).mono ?_
  rintro e w4 ⟨rfl, g4⟩
  have G4 := Lib.hid (grow_trans G3.out g4)
  clear g4 c0 c1 c2 c3 c4 c5 A2 A3
  go_wp2_with fail
  refine (pvtake_eq HT0.out (by simp; omega) (.inl hn64) n1 n2 _).mono ?_
  rintro e w5 ⟨bu, pu, rfl, hbu, hpu, g5⟩
  simp only [Vt.none] at hbu hpu
  obtain ⟨k5, k6, rfl⟩ := hbu.at.len
  obtain ⟨k7, k8, rfl⟩ := hpu.at.len
  have G5 := Lib.hid ((grow_trans G4.out g5).alloc (grow_trans G4.out g5).size (.cells #[.int .i64 0, .int .i64 0, .slice k5 0 k6, .slice k7 0 k8, .int .i64 0, .int .i64 0] 28))
  clear g5 hbu hpu
  go_wp2_with fail
  rw [ba_take]
  refine (pvtake_eq HC.out (by simp; omega) (.inl hn64) n1 n2 _).mono ?_
  rintro e w6 ⟨bu, pu, rfl, hbu, hpu, g6⟩
  simp only [Vt.none] at hbu hpu
  obtain ⟨k9, k10, rfl⟩ := hbu.at.len
  obtain ⟨k11, k12, rfl⟩ := hpu.at.len
  have G6 := Lib.hid ((grow_trans G5.out g6).alloc (grow_trans G5.out g6).size (.cells #[.int .i64 0, .int .i64 0, .slice k9 0 k10, .slice k11 0 k12, .int .i64 0, .int .i64 0] 28))
  clear g6 hbu hpu
  go_wp2
  go_ret
  exact ⟨rfl, G6.out⟩

theorem vertexBack_walk {H : Type} (enc : TypeId × Value → H) (W : World) (base : Nat) (v0 : Value) (v1 : Value) (v2 : Value) (d0 : DataW H) (d1 : DataW H) (d2 : DataW H) (p0 : List MemPlace) (p1 : List MemPlace) (p2 : List MemPlace)
    (h0 : DataW.Trod enc Try.prog W 0 (fun _ => true) true 28 v0 d0 p0) (o0 : Value.okWide Try.prog W .any base 28 v0)
    (h1 : DataW.Trod enc Try.prog W 0 (fun _ => true) true 3 v1 d1 p1) (o1 : Value.okWide Try.prog W .any base 3 v1)
    (h2 : DataW.Trod enc Try.prog W 0 (fun _ => true) true 3 v2 d2 p2) (o2 : Value.okWide Try.prog W .any base 3 v2)
    (hsz : (DataW.weightsEach Try.prog [28, 3, 3] [d0, d1, d2]).all (· ≤ reachBytes) = true) :
    Calls Try.prog 4 #[v0, v1, v2] W fun e W' => e = .returned (.bool true) ∧ Below W.heap.size W W' := by
  obtain ⟨u, bu, pu, rfl, hbu, hpu, l1, l2, l3⟩ := open_vtx o0 h0 (sized_at hsz (j := 0) rfl rfl)
  obtain ⟨n, n1, n2, rfl, rfl, rfl⟩ := open_i64 Try.underlying3 o1 h1
  obtain ⟨c, _, _, rfl, rfl, rfl⟩ := open_i64 Try.underlying3 o2 h2
  have mv : Vt.Mod u := ⟨by omega, l2, by omega⟩
  cases hm : Vt.may u n with
  | false => exact vertexBack_no u bu pu n c W hbu hpu mv n1 n2 hm
  | true =>
    by_cases hc : c < 0
    · exact vertexBack_neg u bu pu n c hc W hbu hpu mv n1 n2 hm
    · obtain ⟨k, rfl⟩ := Int.eq_ofNat_of_zero_le (show 0 ≤ c by omega)
      by_cases hk : k < (Vt.bytes u).length
      · exact vertexBack_cut u bu pu n k k rfl hk W hbu hpu mv n1 n2 hm
      · exact vertexBack_far u bu pu n k k rfl (by omega) W hbu hpu mv n1 n2 hm
end Go.Proofs.Ytmhohnffaffdfaa
