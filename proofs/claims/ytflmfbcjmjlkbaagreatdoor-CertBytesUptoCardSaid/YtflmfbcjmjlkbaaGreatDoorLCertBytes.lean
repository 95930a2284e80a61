/- CertBytes: the walk. -/
import Derived.Test.YtflmfbcjmjlkbaaGreatDoorCrRTake
import Derived.Test.YtflmfbcjmjlkbaaGreatDoorLCertBackO
namespace Go.Proofs.YtflmfbcjmjlkbaaGreatDoor
open Go.RowKit Go.ChangeShapes Go.WideShapes Go.ChangeAt
set_option maxRecDepth 100000
attribute [local go_sem] ByteArray.mk_append_mk
theorem rcbytes_eq {n : Int} {p : Cr.Prf} {R : List UInt8 × Nat} (h : Cr.bytesR p n = R) (bv pv : Value) (w : World) (hb : BtsAt w bv p.1.2.2.1) (hp : TxAt w pv p.1.2.2.2.1) (mv : Vt.Mod p.1) (hx : p.2 < 18446744073709551616) (n1 : -9223372036854775808 ≤ n) (n2 : n ≤ 9223372036854775807) :
    Calls Tryz.prog 6 #[prfV p.1.1 p.1.2.1 bv pv p.1.2.2.2.2.1 p.1.2.2.2.2.2 p.2, .int .i64 n] w fun e w' => e = .returned (.tuple #[tx R.1, .int .i64 R.2]) ∧ Below w.heap.size w w' :=
  h ▸ rcbytes n p bv pv w hb hp mv hx n1 n2
theorem rctake_eq {s : List UInt8} {n : Int} {R : Cr.Prf × Nat} (h : Cr.take s n = R) (hs : s.length ≤ 140737488351232) (n1 : -9223372036854775808 ≤ n) (n2 : n ≤ 9223372036854775807) (w : World) :
    Calls Tryz.prog 8 #[tx s, .int .i64 n] w (PT R w) := h ▸ rctake s n hs n1 n2 w
theorem pcsame_eq {p q : Cr.Prf} {g : Bool} (h : (p == q) = g) (bv pv bv' pv' : Value) (w : World) (hb : BtsAt w bv p.1.2.2.1) (hp : TxAt w pv p.1.2.2.2.1) (hb' : BtsAt w bv' q.1.2.2.1) (hp' : TxAt w pv' q.1.2.2.2.1) (mv : Vt.Mod p.1) :
    Calls Tryz.prog 10 #[prfV p.1.1 p.1.2.1 bv pv p.1.2.2.2.2.1 p.1.2.2.2.2.2 p.2, prfV q.1.1 q.1.2.1 bv' pv' q.1.2.2.2.2.1 q.1.2.2.2.2.2 q.2] w fun e w' => e = .returned (.bool g) ∧ Below w.heap.size w w' :=
  h ▸ pcsame p q bv pv bv' pv' w hb hp hb' hp' mv
theorem mod_take {s : List UInt8} {n : Int} {R : Cr.Prf × Nat} (h : Cr.take s n = R) : Vt.Mod R.1.1 := by
  subst h
  rcases Cr.take_or s n with ⟨e, _⟩ | ⟨p, e, h, _⟩
  · rw [e]; exact ⟨by simp [Cr.none], by intro b hb; simp [Cr.none] at hb, by simp [Cr.none]⟩
  · rw [e]; exact Vt.mod_may (Cr.fits_zero h).1

set_option maxHeartbeats 4000000 in
theorem certBytes_core (p : Cr.Prf) (bv pv : Value) (t : List UInt8) (n : Int) (W : World) (hb : BtsAt W bv p.1.2.2.1) (hp : TxAt W pv p.1.2.2.2.1) (mv : Vt.Mod p.1) (hx : p.2 < 18446744073709551616) (ht : t.length ≤ 4294967296) (n1 : -9223372036854775808 ≤ n) (n2 : n ≤ 9223372036854775807) (hg : GW W) :
    Calls Tryz.prog 3 #[prfV p.1.1 p.1.2.1 bv pv p.1.2.2.2.2.1 p.1.2.2.2.2.2 p.2, tx t, .int .i64 n] W fun e W' => e = .returned (.bool true) ∧ Below W.heap.size W W' := by
  obtain ⟨⟨s, en⟩, hR⟩ : ∃ R, Cr.bytesR p n = R := ⟨_, rfl⟩
  obtain ⟨⟨q, eg⟩, hT⟩ : ∃ R, Cr.take t n = R := ⟨_, rfl⟩
  obtain ⟨z, hz⟩ : ∃ z, (p == q) = z := ⟨_, rfl⟩
  have mq := mod_take hT
  simp only [] at mq
  have H1 := Lib.hid (fun bv pv w hb hp => pcbytes_eq hR bv pv w hb hp mv hx n1 n2)
  have H2 := Lib.hid (fun bv pv w hb hp => rcbytes_eq hR bv pv w hb hp mv hx n1 n2)
  have H3 := Lib.hid (fun w => pctake_eq hT (by omega) (.inr ht) n1 n2 w)
  have H4 := Lib.hid (fun w => rctake_eq hT (by omega) n1 n2 w)
  have H5 := Lib.hid (fun bv pv bv' pv' w h1 h2 h3 h4 => rcsame_eq (p := q) (q := q) (beq_self_eq_true _) bv pv bv' pv' w h1 h2 h3 h4 mq)
  have H6 := Lib.hid (fun bv pv bv' pv' w h1 h2 h3 h4 => pcsame_eq hz bv pv bv' pv' w h1 h2 h3 h4 mv)
  have H7 := Lib.hid (fun bv pv bv' pv' w h1 h2 h3 h4 => rcsame_eq hz bv pv bv' pv' w h1 h2 h3 h4 mv)
  have GG := Lib.hid hg
  clear hR hT hz mq mv hg
  obtain ⟨⟨a, r, bs, ps, x, y⟩, c⟩ := p
  obtain ⟨⟨a', r', bs', ps', x', y'⟩, c'⟩ := q
  simp only [] at hb hp hx
  have HB := Lib.hid hb
  have HP := Lib.hid hp
  obtain ⟨m1, m2, rfl⟩ := hb.len
  obtain ⟨m3, m4, rfl⟩ := hp.len
  have A0 := Lib.hid (PBox.new W a r (.slice m1 bs.length m2) (.slice m3 ps.length m4) x y c)
  have HG := Lib.hid (show Below W.heap.size W (W.alloc (.cells #[.int .i64 a, .int .i64 r, .slice m1 bs.length m2, .slice m3 ps.length m4, .int .i64 x, .int .i64 y, .int .u64 c] 30)) from (Below.refl _ _).alloc (Nat.le_refl _) _)
  clear hb hp
  go_enter Tryz.func3, Tryz.ntmps3
  go_wp2_with fail
  refine (certShown _ (GG.out.below HG.out)).mono ?_
  rintro e w1 ⟨rfl, g1⟩
  have A1 := Lib.hid (A0.out.kept g1)
  have G1 := Lib.hid (HG.out.trans (g1.mono (by simp)))
  obtain ⟨c0, c1, c2, c3, c4, c5, c6⟩ := A1.out.cells
  clear g1
  go_wp2_with fail
  refine (H1.out _ _ _ (HB.out.below G1.out) (HP.out.below G1.out)).mono ?_
  rintro e w2 ⟨rfl, g2⟩
  have A2 := Lib.hid (A1.out.kept g2)
  have G2 := Lib.hid (grow_trans G1.out g2)
  clear g2 c0 c1 c2 c3 c4 c5 c6
  obtain ⟨c0, c1, c2, c3, c4, c5, c6⟩ := A2.out.cells
  go_wp2_with fail
  refine (H2.out _ _ _ (HB.out.below G2.out) (HP.out.below G2.out)).mono ?_
  rintro e w3 ⟨rfl, g3⟩
  have A3 := Lib.hid (A2.out.kept g3)
  have G3 := Lib.hid (grow_trans G2.out g3)
  clear g3 c0 c1 c2 c3 c4 c5 c6
  go_wp2_with fail
  refine (H3.out _).mono ?_
  rintro e w4 ⟨ba, pa, rfl, hba, hpa, g4⟩
  simp only [] at hba hpa
  have HBA := Lib.hid hba
  have HPA := Lib.hid hpa
  obtain ⟨k1, k2, rfl⟩ := hba.at.len
  obtain ⟨k3, k4, rfl⟩ := hpa.at.len
  have ga : Below w4.heap.size w4 (w4.alloc (.cells #[.int .i64 a', .int .i64 r', .slice k1 bs'.length k2, .slice k3 ps'.length k4, .int .i64 x', .int .i64 y', .int .u64 c'] 30)) := (Below.refl _ _).alloc (Nat.le_refl _) _
  have A4 := Lib.hid ((A3.out.kept g4).kept ga)
  have X4 := Lib.hid (PBox.new w4 a' r' (.slice k1 bs'.length k2) (.slice k3 ps'.length k4) x' y' c')
  have G4 := Lib.hid (grow_trans (grow_trans G3.out g4) ga)
  have HBA4 := Lib.hid (HBA.out.keep (Keeps.of ga))
  have HPA4 := Lib.hid (HPA.out.keepT (Keeps.of ga))
  clear g4 ga hba hpa
  go_wp2_with fail
  refine (H4.out _).mono ?_
  rintro e w5 ⟨bb, pb, rfl, hbb, hpb, g5⟩
  simp only [] at hbb hpb
  have HBB := Lib.hid hbb
  have HPB := Lib.hid hpb
  obtain ⟨k5, k6, rfl⟩ := hbb.at.len
  obtain ⟨k7, k8, rfl⟩ := hpb.at.len
  have ga : Below w5.heap.size w5 (w5.alloc (.cells #[.int .i64 a', .int .i64 r', .slice k5 bs'.length k6, .slice k7 ps'.length k8, .int .i64 x', .int .i64 y', .int .u64 c'] 30)) := (Below.refl _ _).alloc (Nat.le_refl _) _
  have gx := grow_trans g5 ga
  have A5 := Lib.hid (A4.out.kept gx)
  have X5 := Lib.hid (X4.out.kept gx)
  have Y5 := Lib.hid (PBox.new w5 a' r' (.slice k5 bs'.length k6) (.slice k7 ps'.length k8) x' y' c')
  have G5 := Lib.hid (grow_trans G4.out gx)
  have HBA5 := Lib.hid (HBA4.out.keep (Keeps.of gx))
  have HPA5 := Lib.hid (HPA4.out.keepT (Keeps.of gx))
  have HBB5 := Lib.hid (HBB.out.keep (Keeps.of ga))
  have HPB5 := Lib.hid (HPB.out.keepT (Keeps.of ga))
  clear g5 ga gx hbb hpb
  obtain ⟨c0, c1, c2, c3, c4, c5, c6⟩ := X5.out.cells
  obtain ⟨d0, d1, d2, d3, d4, d5, d6⟩ := Y5.out.cells
  go_wp2_with fail
  refine (H5.out _ _ _ _ _ HBA5.out.at HPA5.out.at HBB5.out.at HPB5.out.at).mono ?_
  rintro e w6 ⟨rfl, g6⟩
  have A6 := Lib.hid (A5.out.kept g6)
  have X6 := Lib.hid (X5.out.kept g6)
  have G6 := Lib.hid (grow_trans G5.out g6)
  have HBA6 := Lib.hid (HBA5.out.keep (Keeps.of g6))
  have HPA6 := Lib.hid (HPA5.out.keepT (Keeps.of g6))
  clear g6 c0 c1 c2 c3 c4 c5 c6 d0 d1 d2 d3 d4 d5 d6
  obtain ⟨c0, c1, c2, c3, c4, c5, c6⟩ := A6.out.cells
  obtain ⟨d0, d1, d2, d3, d4, d5, d6⟩ := X6.out.cells
  have hS : (fun w' : World => w'.cell? ⟨W.heap.size, 0, none⟩ = some (.int .i64 a) ∧ w'.cell? ⟨W.heap.size, 1, none⟩ = some (.int .i64 r) ∧ w'.cell? ⟨W.heap.size, 2, none⟩ = some (.slice m1 bs.length m2) ∧ w'.cell? ⟨W.heap.size, 3, none⟩ = some (.slice m3 ps.length m4) ∧ w'.cell? ⟨W.heap.size, 4, none⟩ = some (.int .i64 x) ∧ w'.cell? ⟨W.heap.size, 5, none⟩ = some (.int .i64 y) ∧ w'.cell? ⟨W.heap.size, 6, none⟩ = some (.int .u64 c) ∧ w'.cell? ⟨w4.heap.size, 0, none⟩ = some (.int .i64 a') ∧ w'.cell? ⟨w4.heap.size, 1, none⟩ = some (.int .i64 r') ∧ w'.cell? ⟨w4.heap.size, 2, none⟩ = some (.slice k1 bs'.length k2) ∧ w'.cell? ⟨w4.heap.size, 3, none⟩ = some (.slice k3 ps'.length k4) ∧ w'.cell? ⟨w4.heap.size, 4, none⟩ = some (.int .i64 x') ∧ w'.cell? ⟨w4.heap.size, 5, none⟩ = some (.int .i64 y') ∧ w'.cell? ⟨w4.heap.size, 6, none⟩ = some (.int .u64 c') ∧ Below w6.heap.size w6 w') w6 := ⟨c0, c1, c2, c3, c4, c5, c6, d0, d1, d2, d3, d4, d5, d6, Below.refl _ _⟩
  have hk := Lib.hid (show ∀ X Y : World, (fun w' : World => w'.cell? ⟨W.heap.size, 0, none⟩ = some (.int .i64 a) ∧ w'.cell? ⟨W.heap.size, 1, none⟩ = some (.int .i64 r) ∧ w'.cell? ⟨W.heap.size, 2, none⟩ = some (.slice m1 bs.length m2) ∧ w'.cell? ⟨W.heap.size, 3, none⟩ = some (.slice m3 ps.length m4) ∧ w'.cell? ⟨W.heap.size, 4, none⟩ = some (.int .i64 x) ∧ w'.cell? ⟨W.heap.size, 5, none⟩ = some (.int .i64 y) ∧ w'.cell? ⟨W.heap.size, 6, none⟩ = some (.int .u64 c) ∧ w'.cell? ⟨w4.heap.size, 0, none⟩ = some (.int .i64 a') ∧ w'.cell? ⟨w4.heap.size, 1, none⟩ = some (.int .i64 r') ∧ w'.cell? ⟨w4.heap.size, 2, none⟩ = some (.slice k1 bs'.length k2) ∧ w'.cell? ⟨w4.heap.size, 3, none⟩ = some (.slice k3 ps'.length k4) ∧ w'.cell? ⟨w4.heap.size, 4, none⟩ = some (.int .i64 x') ∧ w'.cell? ⟨w4.heap.size, 5, none⟩ = some (.int .i64 y') ∧ w'.cell? ⟨w4.heap.size, 6, none⟩ = some (.int .u64 c') ∧ Below w6.heap.size w6 w') X → Below X.heap.size X Y → (fun w' : World => w'.cell? ⟨W.heap.size, 0, none⟩ = some (.int .i64 a) ∧ w'.cell? ⟨W.heap.size, 1, none⟩ = some (.int .i64 r) ∧ w'.cell? ⟨W.heap.size, 2, none⟩ = some (.slice m1 bs.length m2) ∧ w'.cell? ⟨W.heap.size, 3, none⟩ = some (.slice m3 ps.length m4) ∧ w'.cell? ⟨W.heap.size, 4, none⟩ = some (.int .i64 x) ∧ w'.cell? ⟨W.heap.size, 5, none⟩ = some (.int .i64 y) ∧ w'.cell? ⟨W.heap.size, 6, none⟩ = some (.int .u64 c) ∧ w'.cell? ⟨w4.heap.size, 0, none⟩ = some (.int .i64 a') ∧ w'.cell? ⟨w4.heap.size, 1, none⟩ = some (.int .i64 r') ∧ w'.cell? ⟨w4.heap.size, 2, none⟩ = some (.slice k1 bs'.length k2) ∧ w'.cell? ⟨w4.heap.size, 3, none⟩ = some (.slice k3 ps'.length k4) ∧ w'.cell? ⟨w4.heap.size, 4, none⟩ = some (.int .i64 x') ∧ w'.cell? ⟨w4.heap.size, 5, none⟩ = some (.int .i64 y') ∧ w'.cell? ⟨w4.heap.size, 6, none⟩ = some (.int .u64 c') ∧ Below w6.heap.size w6 w') Y from fun X Y ⟨k0, k1, k2, k3, k4, k5, k6, k7, k8, k9, k10, k11, k12, k13, kb⟩ h => ⟨below_cell h k0, below_cell h k1, below_cell h k2, below_cell h k3, below_cell h k4, below_cell h k5, below_cell h k6, below_cell h k7, below_cell h k8, below_cell h k9, below_cell h k10, below_cell h k11, below_cell h k12, below_cell h k13, grow_trans kb h⟩)
  have q1 := Lib.hid (fun W' (h : (fun w' : World => w'.cell? ⟨W.heap.size, 0, none⟩ = some (.int .i64 a) ∧ w'.cell? ⟨W.heap.size, 1, none⟩ = some (.int .i64 r) ∧ w'.cell? ⟨W.heap.size, 2, none⟩ = some (.slice m1 bs.length m2) ∧ w'.cell? ⟨W.heap.size, 3, none⟩ = some (.slice m3 ps.length m4) ∧ w'.cell? ⟨W.heap.size, 4, none⟩ = some (.int .i64 x) ∧ w'.cell? ⟨W.heap.size, 5, none⟩ = some (.int .i64 y) ∧ w'.cell? ⟨W.heap.size, 6, none⟩ = some (.int .u64 c) ∧ w'.cell? ⟨w4.heap.size, 0, none⟩ = some (.int .i64 a') ∧ w'.cell? ⟨w4.heap.size, 1, none⟩ = some (.int .i64 r') ∧ w'.cell? ⟨w4.heap.size, 2, none⟩ = some (.slice k1 bs'.length k2) ∧ w'.cell? ⟨w4.heap.size, 3, none⟩ = some (.slice k3 ps'.length k4) ∧ w'.cell? ⟨w4.heap.size, 4, none⟩ = some (.int .i64 x') ∧ w'.cell? ⟨w4.heap.size, 5, none⟩ = some (.int .i64 y') ∧ w'.cell? ⟨w4.heap.size, 6, none⟩ = some (.int .u64 c') ∧ Below w6.heap.size w6 w') W') => keepB (fun w' : World => w'.cell? ⟨W.heap.size, 0, none⟩ = some (.int .i64 a) ∧ w'.cell? ⟨W.heap.size, 1, none⟩ = some (.int .i64 r) ∧ w'.cell? ⟨W.heap.size, 2, none⟩ = some (.slice m1 bs.length m2) ∧ w'.cell? ⟨W.heap.size, 3, none⟩ = some (.slice m3 ps.length m4) ∧ w'.cell? ⟨W.heap.size, 4, none⟩ = some (.int .i64 x) ∧ w'.cell? ⟨W.heap.size, 5, none⟩ = some (.int .i64 y) ∧ w'.cell? ⟨W.heap.size, 6, none⟩ = some (.int .u64 c) ∧ w'.cell? ⟨w4.heap.size, 0, none⟩ = some (.int .i64 a') ∧ w'.cell? ⟨w4.heap.size, 1, none⟩ = some (.int .i64 r') ∧ w'.cell? ⟨w4.heap.size, 2, none⟩ = some (.slice k1 bs'.length k2) ∧ w'.cell? ⟨w4.heap.size, 3, none⟩ = some (.slice k3 ps'.length k4) ∧ w'.cell? ⟨w4.heap.size, 4, none⟩ = some (.int .i64 x') ∧ w'.cell? ⟨w4.heap.size, 5, none⟩ = some (.int .i64 y') ∧ w'.cell? ⟨w4.heap.size, 6, none⟩ = some (.int .u64 c') ∧ Below w6.heap.size w6 w') hk.out (H6.out (.slice m1 bs.length m2) (.slice m3 ps.length m4) (.slice k1 bs'.length k2) (.slice k3 ps'.length k4) W' (HB.out.below (grow_trans G6.out h.2.2.2.2.2.2.2.2.2.2.2.2.2.2)) (HP.out.below (grow_trans G6.out h.2.2.2.2.2.2.2.2.2.2.2.2.2.2)) (HBA6.out.at.below h.2.2.2.2.2.2.2.2.2.2.2.2.2.2) (HPA6.out.at.below h.2.2.2.2.2.2.2.2.2.2.2.2.2.2)) h)
  have q2 := Lib.hid (fun W' (h : (fun w' : World => w'.cell? ⟨W.heap.size, 0, none⟩ = some (.int .i64 a) ∧ w'.cell? ⟨W.heap.size, 1, none⟩ = some (.int .i64 r) ∧ w'.cell? ⟨W.heap.size, 2, none⟩ = some (.slice m1 bs.length m2) ∧ w'.cell? ⟨W.heap.size, 3, none⟩ = some (.slice m3 ps.length m4) ∧ w'.cell? ⟨W.heap.size, 4, none⟩ = some (.int .i64 x) ∧ w'.cell? ⟨W.heap.size, 5, none⟩ = some (.int .i64 y) ∧ w'.cell? ⟨W.heap.size, 6, none⟩ = some (.int .u64 c) ∧ w'.cell? ⟨w4.heap.size, 0, none⟩ = some (.int .i64 a') ∧ w'.cell? ⟨w4.heap.size, 1, none⟩ = some (.int .i64 r') ∧ w'.cell? ⟨w4.heap.size, 2, none⟩ = some (.slice k1 bs'.length k2) ∧ w'.cell? ⟨w4.heap.size, 3, none⟩ = some (.slice k3 ps'.length k4) ∧ w'.cell? ⟨w4.heap.size, 4, none⟩ = some (.int .i64 x') ∧ w'.cell? ⟨w4.heap.size, 5, none⟩ = some (.int .i64 y') ∧ w'.cell? ⟨w4.heap.size, 6, none⟩ = some (.int .u64 c') ∧ Below w6.heap.size w6 w') W') => keepB (fun w' : World => w'.cell? ⟨W.heap.size, 0, none⟩ = some (.int .i64 a) ∧ w'.cell? ⟨W.heap.size, 1, none⟩ = some (.int .i64 r) ∧ w'.cell? ⟨W.heap.size, 2, none⟩ = some (.slice m1 bs.length m2) ∧ w'.cell? ⟨W.heap.size, 3, none⟩ = some (.slice m3 ps.length m4) ∧ w'.cell? ⟨W.heap.size, 4, none⟩ = some (.int .i64 x) ∧ w'.cell? ⟨W.heap.size, 5, none⟩ = some (.int .i64 y) ∧ w'.cell? ⟨W.heap.size, 6, none⟩ = some (.int .u64 c) ∧ w'.cell? ⟨w4.heap.size, 0, none⟩ = some (.int .i64 a') ∧ w'.cell? ⟨w4.heap.size, 1, none⟩ = some (.int .i64 r') ∧ w'.cell? ⟨w4.heap.size, 2, none⟩ = some (.slice k1 bs'.length k2) ∧ w'.cell? ⟨w4.heap.size, 3, none⟩ = some (.slice k3 ps'.length k4) ∧ w'.cell? ⟨w4.heap.size, 4, none⟩ = some (.int .i64 x') ∧ w'.cell? ⟨w4.heap.size, 5, none⟩ = some (.int .i64 y') ∧ w'.cell? ⟨w4.heap.size, 6, none⟩ = some (.int .u64 c') ∧ Below w6.heap.size w6 w') hk.out (H7.out (.slice m1 bs.length m2) (.slice m3 ps.length m4) (.slice k1 bs'.length k2) (.slice k3 ps'.length k4) W' (HB.out.below (grow_trans G6.out h.2.2.2.2.2.2.2.2.2.2.2.2.2.2)) (HP.out.below (grow_trans G6.out h.2.2.2.2.2.2.2.2.2.2.2.2.2.2)) (HBA6.out.at.below h.2.2.2.2.2.2.2.2.2.2.2.2.2.2) (HPA6.out.at.below h.2.2.2.2.2.2.2.2.2.2.2.2.2.2)) h)
  clear c0 c1 c2 c3 c4 c5 c6 d0 d1 d2 d3 d4 d5 d6 A0 A1 A2 A3 A4 A5 A6 X4 X5 X6 Y5 HG G1 G2 G3 G4 G5 HBA HPA HBA4 HPA4 HBA5 HPA5 HBB HPB HBB5 HPB5 H1 H2 H3 H4 H5 H6 H7 HB HP HBA6 HPA6 GG
  go_wp2_with fail
  go_region_held3 (fun w' : World => w'.cell? ⟨W.heap.size, 0, none⟩ = some (.int .i64 a) ∧ w'.cell? ⟨W.heap.size, 1, none⟩ = some (.int .i64 r) ∧ w'.cell? ⟨W.heap.size, 2, none⟩ = some (.slice m1 bs.length m2) ∧ w'.cell? ⟨W.heap.size, 3, none⟩ = some (.slice m3 ps.length m4) ∧ w'.cell? ⟨W.heap.size, 4, none⟩ = some (.int .i64 x) ∧ w'.cell? ⟨W.heap.size, 5, none⟩ = some (.int .i64 y) ∧ w'.cell? ⟨W.heap.size, 6, none⟩ = some (.int .u64 c) ∧ w'.cell? ⟨w4.heap.size, 0, none⟩ = some (.int .i64 a') ∧ w'.cell? ⟨w4.heap.size, 1, none⟩ = some (.int .i64 r') ∧ w'.cell? ⟨w4.heap.size, 2, none⟩ = some (.slice k1 bs'.length k2) ∧ w'.cell? ⟨w4.heap.size, 3, none⟩ = some (.slice k3 ps'.length k4) ∧ w'.cell? ⟨w4.heap.size, 4, none⟩ = some (.int .i64 x') ∧ w'.cell? ⟨w4.heap.size, 5, none⟩ = some (.int .i64 y') ∧ w'.cell? ⟨w4.heap.size, 6, none⟩ = some (.int .u64 c') ∧ Below w6.heap.size w6 w')
    (first | assumption | exact hk.out _ _ hS (Below.drew (Below.refl _ _)) | exact hk.out _ _ (by assumption) ((Below.refl _ _).alloc (Nat.le_refl _) _))
    (first
      | (go_at_call 10; refine (q1.out _ (by assumption)).mono ?_; rintro e wz ⟨rfl, kS⟩)
      | (go_at_call 9; refine (q2.out _ (by assumption)).mono ?_; rintro e wz ⟨rfl, kS⟩))
  all_goals
    go_wp2_with fail
    go_ret
    exact ⟨rfl, grow_trans G6.out (show (fun w' : World => w'.cell? ⟨W.heap.size, 0, none⟩ = some (.int .i64 a) ∧ w'.cell? ⟨W.heap.size, 1, none⟩ = some (.int .i64 r) ∧ w'.cell? ⟨W.heap.size, 2, none⟩ = some (.slice m1 bs.length m2) ∧ w'.cell? ⟨W.heap.size, 3, none⟩ = some (.slice m3 ps.length m4) ∧ w'.cell? ⟨W.heap.size, 4, none⟩ = some (.int .i64 x) ∧ w'.cell? ⟨W.heap.size, 5, none⟩ = some (.int .i64 y) ∧ w'.cell? ⟨W.heap.size, 6, none⟩ = some (.int .u64 c) ∧ w'.cell? ⟨w4.heap.size, 0, none⟩ = some (.int .i64 a') ∧ w'.cell? ⟨w4.heap.size, 1, none⟩ = some (.int .i64 r') ∧ w'.cell? ⟨w4.heap.size, 2, none⟩ = some (.slice k1 bs'.length k2) ∧ w'.cell? ⟨w4.heap.size, 3, none⟩ = some (.slice k3 ps'.length k4) ∧ w'.cell? ⟨w4.heap.size, 4, none⟩ = some (.int .i64 x') ∧ w'.cell? ⟨w4.heap.size, 5, none⟩ = some (.int .i64 y') ∧ w'.cell? ⟨w4.heap.size, 6, none⟩ = some (.int .u64 c') ∧ Below w6.heap.size w6 w') _ by assumption).2.2.2.2.2.2.2.2.2.2.2.2.2.2⟩

theorem certBytes_walk {H : Type} (enc : TypeId × Value → H) (W : World) (base : Nat) (v0 : Value) (v1 : Value) (v2 : Value) (d0 : DataW H) (d1 : DataW H) (d2 : DataW H) (p0 : List MemPlace) (p1 : List MemPlace) (p2 : List MemPlace)
    (h0 : DataW.Trod enc Tryz.prog W 0 (fun _ => true) true 30 v0 d0 p0) (o0 : Value.okWide Tryz.prog W .any base 30 v0)
    (h1 : DataW.Trod enc Tryz.prog W 0 (fun _ => true) true 9 v1 d1 p1) (o1 : Value.okWide Tryz.prog W .any base 9 v1)
    (h2 : DataW.Trod enc Tryz.prog W 0 (fun _ => true) true 3 v2 d2 p2) (o2 : Value.okWide Tryz.prog W .any base 3 v2)
    (hsz : (DataW.weightsEach Tryz.prog [30, 9, 3] [d0, d1, d2]).all (· ≤ reachBytes) = true) (hk : Rows.uptoSmall H [d0, d1, d2] = true) (hg : GW W) :
    Calls Tryz.prog 3 #[v0, v1, v2] W fun e W' => e = .returned (.bool true) ∧ Below W.heap.size W W' := by
  obtain ⟨u, bu, pu, rfl, hbu, hpu, mv, hx⟩ := open_prf o0 h0 (sized_at hsz (j := 0) rfl rfl)
  obtain ⟨t, rfl, rfl, rfl⟩ := open_tx Tryz.underlying9 o1 h1
  obtain ⟨n, n1, n2, rfl, rfl, rfl⟩ := open_i64 Tryz.underlying3 o2 h2
  have hb : t.length ≤ 4294967296 := by
    have hb : Rows.uptoBulkAll [d0, DataW.lit (.string t), DataW.lit (.int .i64 n)] ≤ 1048576 := of_decide_eq_true hk
    simp only [Rows.uptoBulkAll, Rows.uptoBulk] at hb
    omega
  exact certBytes_core u bu pu t n W hbu hpu mv hx hb n1 n2 hg
end Go.Proofs.YtflmfbcjmjlkbaaGreatDoor
