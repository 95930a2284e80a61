/- CertBack: the walk. -/
import Derived.Test.YtflmfbcjmjlkbaaDoorCrTake
namespace Go.Proofs.YtflmfbcjmjlkbaaDoor
open Go.RowKit Go.ChangeShapes Go.WideShapes Go.ChangeAt
set_option maxRecDepth 100000
attribute [local go_sem] ByteArray.mk_append_mk

theorem pcbytes_eq {n : Int} {p : Cr.Prf} {R : List UInt8 × Nat} (h : Cr.bytesR p n = R) (bv pv : Value) (w : World) (hb : BtsAt w bv p.1.2.2.1) (hp : TxAt w pv p.1.2.2.2.1) (mv : Vt.Mod p.1) (hx : p.2 < 18446744073709551616) (n1 : -9223372036854775808 ≤ n) (n2 : n ≤ 9223372036854775807) :
    Calls Tryd.prog 20 #[prfV p.1.1 p.1.2.1 bv pv p.1.2.2.2.2.1 p.1.2.2.2.2.2 p.2, .int .i64 n] w fun e w' => e = .returned (.tuple #[tx R.1, .int .i64 R.2]) ∧ Below w.heap.size w w' :=
  h ▸ pcbytes n p bv pv w hb hp mv hx n1 n2
theorem pctake_eq {s : List UInt8} {n : Int} {R : Cr.Prf × Nat} (h : Cr.take s n = R) (hs : s.length ≤ 140737488351232) (hnb : n ≤ 4294967296 ∨ s.length ≤ 4294967296) (n1 : -9223372036854775808 ≤ n) (n2 : n ≤ 9223372036854775807) (w : World) :
    Calls Tryd.prog 21 #[tx s, .int .i64 n] w (PT R w) := h ▸ pctake s n hs hnb n1 n2 w
theorem rcsame_eq {p q : Cr.Prf} {g : Bool} (h : (p == q) = g) (bv pv bv' pv' : Value) (w : World) (hb : BtsAt w bv p.1.2.2.1) (hp : TxAt w pv p.1.2.2.2.1) (hb' : BtsAt w bv' q.1.2.2.1) (hp' : TxAt w pv' q.1.2.2.2.1) (mv : Vt.Mod p.1) :
    Calls Tryd.prog 22 #[prfV p.1.1 p.1.2.1 bv pv p.1.2.2.2.2.1 p.1.2.2.2.2.2 p.2, prfV q.1.1 q.1.2.1 bv' pv' q.1.2.2.2.2.1 q.1.2.2.2.2.2 q.2] w fun e w' => e = .returned (.bool g) ∧ Below w.heap.size w w' :=
  h ▸ rcsame p q bv pv bv' pv' w hb hp hb' hp' mv
theorem cr_back {p : Cr.Prf} {n : Int} (h : Cr.fits p n = 0) (hx : p.2 < 18446744073709551616) : Cr.take (Cr.bytes p) n = (p, 0) := Cr.take_yes h hx rfl

section
variable {H : Type} {enc : TypeId × Value → H} {W : World}
theorem open_prf {base : Nat} {v : Value} {d : DataW H} {p : List MemPlace} (o : Value.okWide Tryd.prog W .any base 31 v) (h : DataW.Trod enc Tryd.prog W 0 (fun _ => true) true 31 v d p) (hsz : (DataW.weights Tryd.prog 31 d).all (· ≤ reachBytes) = true) :
    ∃ (p : Cr.Prf) (bv pv : Value), v = prfV p.1.1 p.1.2.1 bv pv p.1.2.2.2.2.1 p.1.2.2.2.2.2 p.2 ∧ BtsAt W bv p.1.2.2.1 ∧ TxAt W pv p.1.2.2.2.1 ∧ Vt.Mod p.1 ∧ p.2 < 18446744073709551616 := by
  obtain ⟨cs, rfl, hs⟩ := okWide_struct Tryd.underlying31 o
  obtain ⟨n, hn⟩ := h
  have hC : Tryd.prog.cellsOf 31 = 7 := by kernel_rfl
  obtain ⟨u, bv, pv, e, r⟩ := elem_prf n cs.toList (d, p) (by simpa using hs.trans hC) (by simpa [Value.cells] using hn) hsz
  refine ⟨u, bv, pv, ?_, r⟩
  obtain ⟨l⟩ := cs
  simp only at e
  rw [e]
end

set_option maxHeartbeats 2000000 in
theorem certBack_no (p : Cr.Prf) (bv pv : Value) (n c : Int) (W : World) (hb : BtsAt W bv p.1.2.2.1) (hp : TxAt W pv p.1.2.2.2.1) (mv : Vt.Mod p.1) (hx : p.2 < 18446744073709551616) (n1 : -9223372036854775808 ≤ n) (n2 : n ≤ 9223372036854775807) (hg : GW W) (hm : Cr.fits p n ≠ 0) :
    Calls Tryd.prog 4 #[prfV p.1.1 p.1.2.1 bv pv p.1.2.2.2.2.1 p.1.2.2.2.2.2 p.2, .int .i64 n, .int .i64 c] W fun e W' => e = .returned (.bool true) ∧ Below W.heap.size W W' := by
  have HR := Cr.bytesR_no hm
  obtain ⟨en, hen⟩ : ∃ z, Cr.fits p n = z := ⟨_, rfl⟩
  rw [hen] at HR hm
  have t1 : ((en : Int) != 0) = true := by rw [bne_iff_ne]; omega
  have HR := Lib.hid HR
  have MV := Lib.hid mv
  have HX := Lib.hid hx
  have GG := Lib.hid hg
  obtain ⟨⟨a, r, bs, ps, x, y⟩, s⟩ := p
  simp only [] at hb hp
  have HB := Lib.hid hb
  have HP := Lib.hid hp
  obtain ⟨m1, m2, rfl⟩ := hb.len
  obtain ⟨m3, m4, rfl⟩ := hp.len
  have A0 := Lib.hid (PBox.new W a r (.slice m1 bs.length m2) (.slice m3 ps.length m4) x y s)
  have HG := Lib.hid (show Below W.heap.size W (W.alloc (.cells #[.int .i64 a, .int .i64 r, .slice m1 bs.length m2, .slice m3 ps.length m4, .int .i64 x, .int .i64 y, .int .u64 s] 31)) from (Below.refl _ _).alloc (Nat.le_refl _) _)
  clear hb hp hm mv hen hx hg
  go_enter Tryd.func4, Tryd.ntmps4
  go_wp2_with fail
  refine (certShown _ (GG.out.below HG.out)).mono ?_
  rintro e w1 ⟨rfl, g1⟩
  have A1 := Lib.hid (A0.out.kept g1)
  have G1 := Lib.hid (HG.out.trans (g1.mono (by simp)))
  obtain ⟨c0, c1, c2, c3, c4, c5, c6⟩ := A1.out.cells
  clear g1
  go_wp2_with fail
  refine (pcbytes_eq (p := ((a, r, bs, ps, x, y), s)) HR.out _ _ _ (HB.out.below G1.out) (HP.out.below G1.out) MV.out HX.out n1 n2).mono ?_
  rintro e w2 ⟨rfl, g2⟩
  have G2 := Lib.hid (grow_trans G1.out g2)
  clear g2 c0 c1 c2 c3 c4 c5 c6
  go_wp2
  go_ret
  exact ⟨rfl, G2.out⟩

set_option maxHeartbeats 4000000 in
theorem certBack_neg (p : Cr.Prf) (bv pv : Value) (n : Int) (c : Int) (hc : c < 0) (W : World) (hb : BtsAt W bv p.1.2.2.1) (hp : TxAt W pv p.1.2.2.2.1) (mv : Vt.Mod p.1) (hx : p.2 < 18446744073709551616) (n1 : -9223372036854775808 ≤ n) (n2 : n ≤ 9223372036854775807) (hg : GW W) (hm : Cr.fits p n = 0) :
    Calls Tryd.prog 4 #[prfV p.1.1 p.1.2.1 bv pv p.1.2.2.2.2.1 p.1.2.2.2.2.2 p.2, .int .i64 n, .int .i64 c] W fun e W' => e = .returned (.bool true) ∧ Below W.heap.size W W' := by
  have HR := Lib.hid (Cr.bytesR_ok hm)
  have HT := Lib.hid (cr_back hm hx)
  have HT0 := Lib.hid (Cr.longer [0] hm hx (by simp))
  have hsl := Cr.bytes_len hm
  have hcut := fun k h => Cr.cut k hm hx h
  have hn64 : n ≤ 4294967296 := by have := (Vt.fits (Cr.fits_zero hm).1).n2; omega
  have MV := Lib.hid mv
  have HX := Lib.hid hx
  have GG := Lib.hid hg
  obtain ⟨⟨a, r, bs, ps, x, y⟩, s⟩ := p
  generalize Cr.bytes ((a, r, bs, ps, x, y), s) = t at *
  simp only [] at hb hp
  have HB := Lib.hid hb
  have HP := Lib.hid hp
  obtain ⟨m1, m2, rfl⟩ := hb.len
  obtain ⟨m3, m4, rfl⟩ := hp.len
  have A0 := Lib.hid (PBox.new W a r (.slice m1 bs.length m2) (.slice m3 ps.length m4) x y s)
  have HG := Lib.hid (show Below W.heap.size W (W.alloc (.cells #[.int .i64 a, .int .i64 r, .slice m1 bs.length m2, .slice m3 ps.length m4, .int .i64 x, .int .i64 y, .int .u64 s] 31)) from (Below.refl _ _).alloc (Nat.le_refl _) _)
  have t1 : decide (c < 0) = true := decide_eq_true hc
  clear hc
  clear hb hp hm mv hcut hx hg
  go_enter Tryd.func4, Tryd.ntmps4
  go_wp2_with fail
  refine (certShown _ (GG.out.below HG.out)).mono ?_
  rintro e w1 ⟨rfl, g1⟩
  have A1 := Lib.hid (A0.out.kept g1)
  have G1 := Lib.hid (HG.out.trans (g1.mono (by simp)))
  obtain ⟨c0, c1, c2, c3, c4, c5, c6⟩ := A1.out.cells
  clear g1
  go_wp2_with fail
  refine (pcbytes_eq (p := ((a, r, bs, ps, x, y), s)) HR.out _ _ _ (HB.out.below G1.out) (HP.out.below G1.out) MV.out HX.out n1 n2).mono ?_
  rintro e w2 ⟨rfl, g2⟩
  have A2 := Lib.hid (A1.out.kept g2)
  have G2 := Lib.hid (grow_trans G1.out g2)
  clear g2 c0 c1 c2 c3 c4 c5 c6
  go_wp2_with fail
  refine (pctake_eq HT.out (by omega) (.inl hn64) n1 n2 _).mono ?_
  rintro e w3 ⟨bu, pu, rfl, hbu, hpu, g3⟩
  simp only [] at hbu hpu
  have HBU := Lib.hid hbu
  have HPU := Lib.hid hpu
  obtain ⟨k1, k2, rfl⟩ := hbu.at.len
  obtain ⟨k3, k4, rfl⟩ := hpu.at.len
  have ga : Below w3.heap.size w3 (w3.alloc (.cells #[.int .i64 a, .int .i64 r, .slice k1 bs.length k2, .slice k3 ps.length k4, .int .i64 x, .int .i64 y, .int .u64 s] 31)) := (Below.refl _ _).alloc (Nat.le_refl _) _
  have A3 := Lib.hid ((A2.out.kept g3).kept ga)
  have G3 := Lib.hid (grow_trans (grow_trans G2.out g3) ga)
  have HBU3 := Lib.hid (HBU.out.keep (Keeps.of ga))
  have HPU3 := Lib.hid (HPU.out.keepT (Keeps.of ga))
  obtain ⟨c0, c1, c2, c3, c4, c5, c6⟩ := A3.out.cells
  clear g3 ga hbu hpu
  go_wp2_with fail
  refine (rcsame_eq (p := ((a, r, bs, ps, x, y), s)) (q := ((a, r, bs, ps, x, y), s)) (beq_self_eq_true _) _ _ _ _ _ (HB.out.below G3.out) (HP.out.below G3.out) HBU3.out.at HPU3.out.at MV.out).mono ?_
  rintro e w4 ⟨rfl, g4⟩
  have G4 := Lib.hid (grow_trans G3.out g4)
  clear g4 c0 c1 c2 c3 c4 c5 c6 A2 A3
  go_wp2_with fail
  refine (pctake_eq HT0.out (by simp; omega) (.inl hn64) n1 n2 _).mono ?_
  rintro e w5 ⟨bu, pu, rfl, hbu, hpu, g5⟩
  simp only [Cr.none] at hbu hpu
  obtain ⟨k5, k6, rfl⟩ := hbu.at.len
  obtain ⟨k7, k8, rfl⟩ := hpu.at.len
  have G5 := Lib.hid ((grow_trans G4.out g5).alloc (grow_trans G4.out g5).size (.cells #[.int .i64 0, .int .i64 0, .slice k5 0 k6, .slice k7 0 k8, .int .i64 0, .int .i64 0, .int .u64 0] 31))
  clear g5 hbu hpu
  go_wp2
  go_ret
  exact ⟨rfl, G5.out⟩

set_option maxHeartbeats 4000000 in
theorem certBack_far (p : Cr.Prf) (bv pv : Value) (n : Int) (k : Nat) (c : Int) (hc : c = k) (hk : (Cr.bytes p).length ≤ k) (W : World) (hb : BtsAt W bv p.1.2.2.1) (hp : TxAt W pv p.1.2.2.2.1) (mv : Vt.Mod p.1) (hx : p.2 < 18446744073709551616) (n1 : -9223372036854775808 ≤ n) (n2 : n ≤ 9223372036854775807) (hg : GW W) (hm : Cr.fits p n = 0) :
    Calls Tryd.prog 4 #[prfV p.1.1 p.1.2.1 bv pv p.1.2.2.2.2.1 p.1.2.2.2.2.2 p.2, .int .i64 n, .int .i64 c] W fun e W' => e = .returned (.bool true) ∧ Below W.heap.size W W' := by
  have HR := Lib.hid (Cr.bytesR_ok hm)
  have HT := Lib.hid (cr_back hm hx)
  have HT0 := Lib.hid (Cr.longer [0] hm hx (by simp))
  have hsl := Cr.bytes_len hm
  have hcut := fun k h => Cr.cut k hm hx h
  have hn64 : n ≤ 4294967296 := by have := (Vt.fits (Cr.fits_zero hm).1).n2; omega
  have MV := Lib.hid mv
  have HX := Lib.hid hx
  have GG := Lib.hid hg
  obtain ⟨⟨a, r, bs, ps, x, y⟩, s⟩ := p
  generalize Cr.bytes ((a, r, bs, ps, x, y), s) = t at *
  simp only [] at hb hp
  have HB := Lib.hid hb
  have HP := Lib.hid hp
  obtain ⟨m1, m2, rfl⟩ := hb.len
  obtain ⟨m3, m4, rfl⟩ := hp.len
  have A0 := Lib.hid (PBox.new W a r (.slice m1 bs.length m2) (.slice m3 ps.length m4) x y s)
  have HG := Lib.hid (show Below W.heap.size W (W.alloc (.cells #[.int .i64 a, .int .i64 r, .slice m1 bs.length m2, .slice m3 ps.length m4, .int .i64 x, .int .i64 y, .int .u64 s] 31)) from (Below.refl _ _).alloc (Nat.le_refl _) _)
  subst hc
  have t1 : decide ((k : Int) < 0) = false := decide_eq_false (by omega)
  clear hb hp hm mv hcut hx hg
  go_enter Tryd.func4, Tryd.ntmps4
  go_wp2_with fail
  refine (certShown _ (GG.out.below HG.out)).mono ?_
  rintro e w1 ⟨rfl, g1⟩
  have A1 := Lib.hid (A0.out.kept g1)
  have G1 := Lib.hid (HG.out.trans (g1.mono (by simp)))
  obtain ⟨c0, c1, c2, c3, c4, c5, c6⟩ := A1.out.cells
  clear g1
  go_wp2_with fail
  refine (pcbytes_eq (p := ((a, r, bs, ps, x, y), s)) HR.out _ _ _ (HB.out.below G1.out) (HP.out.below G1.out) MV.out HX.out n1 n2).mono ?_
  rintro e w2 ⟨rfl, g2⟩
  have A2 := Lib.hid (A1.out.kept g2)
  have G2 := Lib.hid (grow_trans G1.out g2)
  clear g2 c0 c1 c2 c3 c4 c5 c6
  go_wp2_with fail
  refine (pctake_eq HT.out (by omega) (.inl hn64) n1 n2 _).mono ?_
  rintro e w3 ⟨bu, pu, rfl, hbu, hpu, g3⟩
  simp only [] at hbu hpu
  have HBU := Lib.hid hbu
  have HPU := Lib.hid hpu
  obtain ⟨k1, k2, rfl⟩ := hbu.at.len
  obtain ⟨k3, k4, rfl⟩ := hpu.at.len
  have ga : Below w3.heap.size w3 (w3.alloc (.cells #[.int .i64 a, .int .i64 r, .slice k1 bs.length k2, .slice k3 ps.length k4, .int .i64 x, .int .i64 y, .int .u64 s] 31)) := (Below.refl _ _).alloc (Nat.le_refl _) _
  have A3 := Lib.hid ((A2.out.kept g3).kept ga)
  have G3 := Lib.hid (grow_trans (grow_trans G2.out g3) ga)
  have HBU3 := Lib.hid (HBU.out.keep (Keeps.of ga))
  have HPU3 := Lib.hid (HPU.out.keepT (Keeps.of ga))
  obtain ⟨c0, c1, c2, c3, c4, c5, c6⟩ := A3.out.cells
  clear g3 ga hbu hpu
  go_wp2_with fail
  refine (rcsame_eq (p := ((a, r, bs, ps, x, y), s)) (q := ((a, r, bs, ps, x, y), s)) (beq_self_eq_true _) _ _ _ _ _ (HB.out.below G3.out) (HP.out.below G3.out) HBU3.out.at HPU3.out.at MV.out).mono ?_
  rintro e w4 ⟨rfl, g4⟩
  have G4 := Lib.hid (grow_trans G3.out g4)
  clear g4 c0 c1 c2 c3 c4 c5 c6 A2 A3
  go_wp2_with fail
  refine (pctake_eq HT0.out (by simp; omega) (.inl hn64) n1 n2 _).mono ?_
  rintro e w5 ⟨bu, pu, rfl, hbu, hpu, g5⟩
  simp only [Cr.none] at hbu hpu
  obtain ⟨k5, k6, rfl⟩ := hbu.at.len
  obtain ⟨k7, k8, rfl⟩ := hpu.at.len
  have G5 := Lib.hid ((grow_trans G4.out g5).alloc (grow_trans G4.out g5).size (.cells #[.int .i64 0, .int .i64 0, .slice k5 0 k6, .slice k7 0 k8, .int .i64 0, .int .i64 0, .int .u64 0] 31))
  clear g5 hbu hpu
  go_wp2
  go_ret
  exact ⟨rfl, G5.out⟩

set_option maxHeartbeats 4000000 in
theorem certBack_cut (p : Cr.Prf) (bv pv : Value) (n : Int) (k : Nat) (c : Int) (hc : c = k) (hk : k < (Cr.bytes p).length) (W : World) (hb : BtsAt W bv p.1.2.2.1) (hp : TxAt W pv p.1.2.2.2.1) (mv : Vt.Mod p.1) (hx : p.2 < 18446744073709551616) (n1 : -9223372036854775808 ≤ n) (n2 : n ≤ 9223372036854775807) (hg : GW W) (hm : Cr.fits p n = 0) :
    Calls Tryd.prog 4 #[prfV p.1.1 p.1.2.1 bv pv p.1.2.2.2.2.1 p.1.2.2.2.2.2 p.2, .int .i64 n, .int .i64 c] W fun e W' => e = .returned (.bool true) ∧ Below W.heap.size W W' := by
  have HR := Lib.hid (Cr.bytesR_ok hm)
  have HT := Lib.hid (cr_back hm hx)
  have HT0 := Lib.hid (Cr.longer [0] hm hx (by simp))
  have hsl := Cr.bytes_len hm
  have hcut := fun k h => Cr.cut k hm hx h
  have hn64 : n ≤ 4294967296 := by have := (Vt.fits (Cr.fits_zero hm).1).n2; omega
  have MV := Lib.hid mv
  have HX := Lib.hid hx
  have GG := Lib.hid hg
  obtain ⟨⟨a, r, bs, ps, x, y⟩, s⟩ := p
  generalize Cr.bytes ((a, r, bs, ps, x, y), s) = t at *
  simp only [] at hb hp
  have HB := Lib.hid hb
  have HP := Lib.hid hp
  obtain ⟨m1, m2, rfl⟩ := hb.len
  obtain ⟨m3, m4, rfl⟩ := hp.len
  have A0 := Lib.hid (PBox.new W a r (.slice m1 bs.length m2) (.slice m3 ps.length m4) x y s)
  have HG := Lib.hid (show Below W.heap.size W (W.alloc (.cells #[.int .i64 a, .int .i64 r, .slice m1 bs.length m2, .slice m3 ps.length m4, .int .i64 x, .int .i64 y, .int .u64 s] 31)) from (Below.refl _ _).alloc (Nat.le_refl _) _)
  subst hc
  have HC := Lib.hid (hcut k hk)
  clear hb hp hm mv hcut hx hg
  go_enter Tryd.func4, Tryd.ntmps4
  go_wp2_with fail
  refine (certShown _ (GG.out.below HG.out)).mono ?_
  rintro e w1 ⟨rfl, g1⟩
  have A1 := Lib.hid (A0.out.kept g1)
  have G1 := Lib.hid (HG.out.trans (g1.mono (by simp)))
  obtain ⟨c0, c1, c2, c3, c4, c5, c6⟩ := A1.out.cells
  clear g1
  go_wp2_with fail
  refine (pcbytes_eq (p := ((a, r, bs, ps, x, y), s)) HR.out _ _ _ (HB.out.below G1.out) (HP.out.below G1.out) MV.out HX.out n1 n2).mono ?_
  rintro e w2 ⟨rfl, g2⟩
  have A2 := Lib.hid (A1.out.kept g2)
  have G2 := Lib.hid (grow_trans G1.out g2)
  clear g2 c0 c1 c2 c3 c4 c5 c6
  go_wp2_with fail
  refine (pctake_eq HT.out (by omega) (.inl hn64) n1 n2 _).mono ?_
  rintro e w3 ⟨bu, pu, rfl, hbu, hpu, g3⟩
  simp only [] at hbu hpu
  have HBU := Lib.hid hbu
  have HPU := Lib.hid hpu
  obtain ⟨k1, k2, rfl⟩ := hbu.at.len
  obtain ⟨k3, k4, rfl⟩ := hpu.at.len
  have ga : Below w3.heap.size w3 (w3.alloc (.cells #[.int .i64 a, .int .i64 r, .slice k1 bs.length k2, .slice k3 ps.length k4, .int .i64 x, .int .i64 y, .int .u64 s] 31)) := (Below.refl _ _).alloc (Nat.le_refl _) _
  have A3 := Lib.hid ((A2.out.kept g3).kept ga)
  have G3 := Lib.hid (grow_trans (grow_trans G2.out g3) ga)
  have HBU3 := Lib.hid (HBU.out.keep (Keeps.of ga))
  have HPU3 := Lib.hid (HPU.out.keepT (Keeps.of ga))
  obtain ⟨c0, c1, c2, c3, c4, c5, c6⟩ := A3.out.cells
  clear g3 ga hbu hpu
  go_wp2_with fail
  refine (rcsame_eq (p := ((a, r, bs, ps, x, y), s)) (q := ((a, r, bs, ps, x, y), s)) (beq_self_eq_true _) _ _ _ _ _ (HB.out.below G3.out) (HP.out.below G3.out) HBU3.out.at HPU3.out.at MV.out).mono ?_
  rintro e w4 ⟨rfl, g4⟩
  have G4 := Lib.hid (grow_trans G3.out g4)
  clear g4 c0 c1 c2 c3 c4 c5 c6 A2 A3
  go_wp2_with fail
  refine (pctake_eq HT0.out (by simp; omega) (.inl hn64) n1 n2 _).mono ?_
  rintro e w5 ⟨bu, pu, rfl, hbu, hpu, g5⟩
  simp only [Cr.none] at hbu hpu
  obtain ⟨k5, k6, rfl⟩ := hbu.at.len
  obtain ⟨k7, k8, rfl⟩ := hpu.at.len
  have G5 := Lib.hid ((grow_trans G4.out g5).alloc (grow_trans G4.out g5).size (.cells #[.int .i64 0, .int .i64 0, .slice k5 0 k6, .slice k7 0 k8, .int .i64 0, .int .i64 0, .int .u64 0] 31))
  clear g5 hbu hpu
  go_wp2_with fail
  rw [ba_take]
  refine (pctake_eq HC.out (by simp; omega) (.inl hn64) n1 n2 _).mono ?_
  rintro e w6 ⟨bu, pu, rfl, hbu, hpu, g6⟩
  simp only [Cr.none] at hbu hpu
  obtain ⟨k9, k10, rfl⟩ := hbu.at.len
  obtain ⟨k11, k12, rfl⟩ := hpu.at.len
  have G6 := Lib.hid ((grow_trans G5.out g6).alloc (grow_trans G5.out g6).size (.cells #[.int .i64 0, .int .i64 0, .slice k9 0 k10, .slice k11 0 k12, .int .i64 0, .int .i64 0, .int .u64 0] 31))
  clear g6 hbu hpu
  go_wp2
  go_ret
  exact ⟨rfl, G6.out⟩

theorem certBack_walk {H : Type} (enc : TypeId × Value → H) (W : World) (base : Nat) (v0 : Value) (v1 : Value) (v2 : Value) (d0 : DataW H) (d1 : DataW H) (d2 : DataW H) (p0 : List MemPlace) (p1 : List MemPlace) (p2 : List MemPlace)
    (h0 : DataW.Trod enc Tryd.prog W 0 (fun _ => true) true 31 v0 d0 p0) (o0 : Value.okWide Tryd.prog W .any base 31 v0)
    (h1 : DataW.Trod enc Tryd.prog W 0 (fun _ => true) true 3 v1 d1 p1) (o1 : Value.okWide Tryd.prog W .any base 3 v1)
    (h2 : DataW.Trod enc Tryd.prog W 0 (fun _ => true) true 3 v2 d2 p2) (o2 : Value.okWide Tryd.prog W .any base 3 v2)
    (hsz : (DataW.weightsEach Tryd.prog [31, 3, 3] [d0, d1, d2]).all (· ≤ reachBytes) = true) (hg : GW W) :
    Calls Tryd.prog 4 #[v0, v1, v2] W fun e W' => e = .returned (.bool true) ∧ Below W.heap.size W W' := by
  obtain ⟨u, bu, pu, rfl, hbu, hpu, mv, hx⟩ := open_prf o0 h0 (sized_at hsz (j := 0) rfl rfl)
  obtain ⟨n, n1, n2, rfl, rfl, rfl⟩ := open_i64 Tryd.underlying3 o1 h1
  obtain ⟨c, _, _, rfl, rfl, rfl⟩ := open_i64 Tryd.underlying3 o2 h2
  by_cases hm : Cr.fits u n = 0
  · by_cases hc : c < 0
    · exact certBack_neg u bu pu n c hc W hbu hpu mv hx n1 n2 hg hm
    · obtain ⟨k, rfl⟩ := Int.eq_ofNat_of_zero_le (show 0 ≤ c by omega)
      by_cases hk : k < (Cr.bytes u).length
      · exact certBack_cut u bu pu n k k rfl hk W hbu hpu mv hx n1 n2 hg hm
      · exact certBack_far u bu pu n k k rfl (by omega) W hbu hpu mv hx n1 n2 hg hm
  · exact certBack_no u bu pu n c W hbu hpu mv hx n1 n2 hg hm
end Go.Proofs.YtflmfbcjmjlkbaaDoor
