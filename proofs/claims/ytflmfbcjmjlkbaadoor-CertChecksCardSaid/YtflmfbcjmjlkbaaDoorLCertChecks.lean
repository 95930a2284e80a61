/- CertChecks: the walk. -/
import Derived.Test.YtflmfbcjmjlkbaaDoorCrABC
namespace Go.Proofs.YtflmfbcjmjlkbaaDoor
open Go.RowKit Go.ChangeShapes Go.WideShapes Go.ChangeAt
set_option maxRecDepth 100000

/-- What came in, in a block. -/
def KBox (W : World) (B : Nat) (n : Int) (k : Value) (a r : Int) (b p : Value) (x y : Int) (s : Nat) (d : List UInt8) : Prop := W.heap[B]? = some (.cells #[.int .i64 n, k, .int .i64 a, .int .i64 r, b, p, .int .i64 x, .int .i64 y, .int .u64 s, tx d] 33 (0, 0))
theorem KBox.cells {W : World} {B : Nat} {n : Int} {k : Value} {a r : Int} {b p : Value} {x y : Int} {s : Nat} {d : List UInt8} (h : KBox W B n k a r b p x y s d) : W.cell? ⟨B, 0, none⟩ = some (.int .i64 n) ∧ W.cell? ⟨B, 1, none⟩ = some k ∧ W.cell? ⟨B, 2, none⟩ = some (.int .i64 a) ∧ W.cell? ⟨B, 3, none⟩ = some (.int .i64 r) ∧ W.cell? ⟨B, 4, none⟩ = some b ∧ W.cell? ⟨B, 5, none⟩ = some p ∧ W.cell? ⟨B, 6, none⟩ = some (.int .i64 x) ∧ W.cell? ⟨B, 7, none⟩ = some (.int .i64 y) ∧ W.cell? ⟨B, 8, none⟩ = some (.int .u64 s) ∧ W.cell? ⟨B, 9, none⟩ = some (tx d) := by
  have e : W.heap[B]? = _ := h
  refine ⟨?_, ?_, ?_, ?_, ?_, ?_, ?_, ?_, ?_, ?_⟩ <;> simp [World.cell?, e]
theorem KBox.new (W : World) (n : Int) (k : Value) (a r : Int) (b p : Value) (x y : Int) (s : Nat) (d : List UInt8) : KBox (W.alloc (.cells #[.int .i64 n, k, .int .i64 a, .int .i64 r, b, p, .int .i64 x, .int .i64 y, .int .u64 s, tx d] 33)) W.heap.size n k a r b p x y s d := World.alloc_heap_new W _
theorem KBox.alloc {W : World} {B : Nat} {n : Int} {k : Value} {a r : Int} {b p : Value} {x y : Int} {s : Nat} {d : List UInt8} (h : KBox W B n k a r b p x y s d) (o : Obj) : KBox (W.alloc o) B n k a r b p x y s d :=
  (((Below.refl W.heap.size W).alloc (Nat.le_refl _) o).block B (Array.getElem?_eq_some_iff.1 h).1).trans h

set_option maxHeartbeats 8000000 in
theorem certChecks_core (n : Int) (b : List Bk.Sl) (p : Cr.Prf) (d : List UInt8) (bkv bv pv : Value) (W : World) (hk : FlatAt W bkv 2 (seals b)) (hl : b.length ≤ 140737488351232) (hb : BtsAt W bv p.1.2.2.1) (hp : TxAt W pv p.1.2.2.2.1) (mv : Vt.Mod p.1) (hx : p.2 < 18446744073709551616) (hd : d.length ≤ 140737488351232) (n1 : -9223372036854775808 ≤ n) (n2 : n ≤ 9223372036854775807) (hw : GW W) :
    Calls Tryd.prog 3 #[.agg #[.int .i64 n, bkv, .int .i64 p.1.1, .int .i64 p.1.2.1, bv, pv, .int .i64 p.1.2.2.2.2.1, .int .i64 p.1.2.2.2.2.2, .int .u64 p.2, tx d]] W fun e W' => e = .returned (.bool true) ∧ Below W.heap.size W W' := by
  have HW := Lib.hid hw
  have MV := Lib.hid mv
  have h1 := fun W => pheader d hd W
  have h2 := fun W => rheader d hd W
  have h3 := fun W => pvote d hd W
  have h4 := fun W => rvote d hd W
  have h5 := fun W => porigin d hd W
  have h6 := fun W => rorigin d hd W
  generalize Cr.hd d = x1 at *
  generalize Cr.yd d = x2 at *
  generalize Cr.od d = x3 at *
  have H1 := Lib.hid h1
  have H2 := Lib.hid h2
  have H3 := Lib.hid h3
  have H4 := Lib.hid h4
  have H5 := Lib.hid h5
  have H6 := Lib.hid h6
  obtain ⟨v, x⟩ := p
  simp only [] at hx
  have hps := Lib.hid (fun bkv bv pv W => pSealed n b v bkv bv pv W)
  have hrs := Lib.hid (fun bkv bv pv W => rSealed n b v bkv bv pv W)
  have hpc := Lib.hid (fun bkv bv pv W => pcheck n b (v, x) bkv bv pv W)
  have hrc := Lib.hid (fun bkv bv pv W => rcheck n b (v, x) bkv bv pv W)
  generalize Cr.sealedC n b v = y1 at *
  generalize Cr.check n b (v, x) = y2 at *
  have HK := Lib.hid hk
  obtain ⟨a, r, bs, ps, y, z⟩ := v
  simp only [] at hb hp
  have HB := Lib.hid hb
  have HP := Lib.hid hp
  obtain ⟨m1, m2, rfl⟩ := hb.len
  obtain ⟨m3, m4, rfl⟩ := hp.len
  obtain ⟨m5, m6, rfl⟩ := hk.len (n := b.length) (seals_len b) (by omega)
  have I0 := Lib.hid ((KBox.new W n (.slice m5 b.length m6) a r (.slice m1 bs.length m2) (.slice m3 ps.length m4) y z x d).alloc (.cells #[.int .i64 a, .int .i64 r, .slice m1 bs.length m2, .slice m3 ps.length m4, .int .i64 y, .int .i64 z, .int .u64 x] 31))
  have hv0 := PBox.new (W.alloc (.cells #[.int .i64 n, .slice m5 b.length m6, .int .i64 a, .int .i64 r, .slice m1 bs.length m2, .slice m3 ps.length m4, .int .i64 y, .int .i64 z, .int .u64 x, tx d] 33)) a r (.slice m1 bs.length m2) (.slice m3 ps.length m4) y z x
  rw [World.size_alloc] at hv0
  have A0 := Lib.hid hv0
  have HG := Lib.hid (show Below W.heap.size W ((W.alloc (.cells #[.int .i64 n, .slice m5 b.length m6, .int .i64 a, .int .i64 r, .slice m1 bs.length m2, .slice m3 ps.length m4, .int .i64 y, .int .i64 z, .int .u64 x, tx d] 33)).alloc (.cells #[.int .i64 a, .int .i64 r, .slice m1 bs.length m2, .slice m3 ps.length m4, .int .i64 y, .int .i64 z, .int .u64 x] 31)) from ((Below.refl _ _).alloc (Nat.le_refl _) _).alloc (by simp) _)
  obtain ⟨k0, k1, k2, k3, k4, k5, k6, k7, k8, k9⟩ := I0.out.cells
  clear hb hp hk mv hv0 hw h1 h2 h3 h4 h5 h6
  go_enter Tryd.func3, Tryd.ntmps3
  go_wp2_with fail
  refine (certShown _ (HW.out.below HG.out)).mono ?_
  rintro e w1 ⟨rfl, g1⟩
  have A1 := Lib.hid (A0.out.kept g1)
  have G1 := Lib.hid (HG.out.trans (g1.mono (by simp; omega)))
  clear g1 k0 k1 k2 k3 k4 k5 k6 k7 k8 k9
  go_wp2_with fail
  refine (H1.out _).mono ?_
  rintro e w ⟨rfl, rfl⟩
  go_wp2_with fail
  refine (H2.out _).mono ?_
  rintro e w ⟨rfl, rfl⟩
  go_wp2_with fail
  refine (H3.out _).mono ?_
  rintro e w ⟨rfl, rfl⟩
  go_wp2_with fail
  refine (H4.out _).mono ?_
  rintro e w ⟨rfl, rfl⟩
  go_wp2_with fail
  refine (H5.out _).mono ?_
  rintro e w ⟨rfl, rfl⟩
  go_wp2_with fail
  refine (H6.out _).mono ?_
  rintro e w ⟨rfl, rfl⟩
  obtain ⟨c0, c1, c2, c3, c4, c5, c6⟩ := A1.out.cells
  have hS : (fun w' : World => w'.cell? ⟨W.heap.size + 1, 0, none⟩ = some (.int .i64 a) ∧ w'.cell? ⟨W.heap.size + 1, 1, none⟩ = some (.int .i64 r) ∧ w'.cell? ⟨W.heap.size + 1, 2, none⟩ = some (.slice m1 bs.length m2) ∧ w'.cell? ⟨W.heap.size + 1, 3, none⟩ = some (.slice m3 ps.length m4) ∧ w'.cell? ⟨W.heap.size + 1, 4, none⟩ = some (.int .i64 y) ∧ w'.cell? ⟨W.heap.size + 1, 5, none⟩ = some (.int .i64 z) ∧ w'.cell? ⟨W.heap.size + 1, 6, none⟩ = some (.int .u64 x) ∧ Below W.heap.size W w') w := ⟨c0, c1, c2, c3, c4, c5, c6, G1.out⟩
  have hkp := Lib.hid (show ∀ A1 A2 : World, (fun w' : World => w'.cell? ⟨W.heap.size + 1, 0, none⟩ = some (.int .i64 a) ∧ w'.cell? ⟨W.heap.size + 1, 1, none⟩ = some (.int .i64 r) ∧ w'.cell? ⟨W.heap.size + 1, 2, none⟩ = some (.slice m1 bs.length m2) ∧ w'.cell? ⟨W.heap.size + 1, 3, none⟩ = some (.slice m3 ps.length m4) ∧ w'.cell? ⟨W.heap.size + 1, 4, none⟩ = some (.int .i64 y) ∧ w'.cell? ⟨W.heap.size + 1, 5, none⟩ = some (.int .i64 z) ∧ w'.cell? ⟨W.heap.size + 1, 6, none⟩ = some (.int .u64 x) ∧ Below W.heap.size W w') A1 → Below A1.heap.size A1 A2 → (fun w' : World => w'.cell? ⟨W.heap.size + 1, 0, none⟩ = some (.int .i64 a) ∧ w'.cell? ⟨W.heap.size + 1, 1, none⟩ = some (.int .i64 r) ∧ w'.cell? ⟨W.heap.size + 1, 2, none⟩ = some (.slice m1 bs.length m2) ∧ w'.cell? ⟨W.heap.size + 1, 3, none⟩ = some (.slice m3 ps.length m4) ∧ w'.cell? ⟨W.heap.size + 1, 4, none⟩ = some (.int .i64 y) ∧ w'.cell? ⟨W.heap.size + 1, 5, none⟩ = some (.int .i64 z) ∧ w'.cell? ⟨W.heap.size + 1, 6, none⟩ = some (.int .u64 x) ∧ Below W.heap.size W w') A2 from fun A1 A2 ⟨k0, k1, k2, k3, k4, k5, k6, kb⟩ h => ⟨below_cell h k0, below_cell h k1, below_cell h k2, below_cell h k3, below_cell h k4, below_cell h k5, below_cell h k6, grow_trans kb h⟩)
  have q1 := Lib.hid (fun W' (h : (fun w' : World => w'.cell? ⟨W.heap.size + 1, 0, none⟩ = some (.int .i64 a) ∧ w'.cell? ⟨W.heap.size + 1, 1, none⟩ = some (.int .i64 r) ∧ w'.cell? ⟨W.heap.size + 1, 2, none⟩ = some (.slice m1 bs.length m2) ∧ w'.cell? ⟨W.heap.size + 1, 3, none⟩ = some (.slice m3 ps.length m4) ∧ w'.cell? ⟨W.heap.size + 1, 4, none⟩ = some (.int .i64 y) ∧ w'.cell? ⟨W.heap.size + 1, 5, none⟩ = some (.int .i64 z) ∧ w'.cell? ⟨W.heap.size + 1, 6, none⟩ = some (.int .u64 x) ∧ Below W.heap.size W w') W') => keepB (fun w' : World => w'.cell? ⟨W.heap.size + 1, 0, none⟩ = some (.int .i64 a) ∧ w'.cell? ⟨W.heap.size + 1, 1, none⟩ = some (.int .i64 r) ∧ w'.cell? ⟨W.heap.size + 1, 2, none⟩ = some (.slice m1 bs.length m2) ∧ w'.cell? ⟨W.heap.size + 1, 3, none⟩ = some (.slice m3 ps.length m4) ∧ w'.cell? ⟨W.heap.size + 1, 4, none⟩ = some (.int .i64 y) ∧ w'.cell? ⟨W.heap.size + 1, 5, none⟩ = some (.int .i64 z) ∧ w'.cell? ⟨W.heap.size + 1, 6, none⟩ = some (.int .u64 x) ∧ Below W.heap.size W w') hkp.out (hps.out (.slice m5 b.length m6) (.slice m1 bs.length m2) (.slice m3 ps.length m4) W' (HK.out.below h.2.2.2.2.2.2.2) hl (HB.out.below h.2.2.2.2.2.2.2) (HP.out.below h.2.2.2.2.2.2.2) MV.out n1 n2 (HW.out.below h.2.2.2.2.2.2.2)) h)
  have q2 := Lib.hid (fun W' (h : (fun w' : World => w'.cell? ⟨W.heap.size + 1, 0, none⟩ = some (.int .i64 a) ∧ w'.cell? ⟨W.heap.size + 1, 1, none⟩ = some (.int .i64 r) ∧ w'.cell? ⟨W.heap.size + 1, 2, none⟩ = some (.slice m1 bs.length m2) ∧ w'.cell? ⟨W.heap.size + 1, 3, none⟩ = some (.slice m3 ps.length m4) ∧ w'.cell? ⟨W.heap.size + 1, 4, none⟩ = some (.int .i64 y) ∧ w'.cell? ⟨W.heap.size + 1, 5, none⟩ = some (.int .i64 z) ∧ w'.cell? ⟨W.heap.size + 1, 6, none⟩ = some (.int .u64 x) ∧ Below W.heap.size W w') W') => keepB (fun w' : World => w'.cell? ⟨W.heap.size + 1, 0, none⟩ = some (.int .i64 a) ∧ w'.cell? ⟨W.heap.size + 1, 1, none⟩ = some (.int .i64 r) ∧ w'.cell? ⟨W.heap.size + 1, 2, none⟩ = some (.slice m1 bs.length m2) ∧ w'.cell? ⟨W.heap.size + 1, 3, none⟩ = some (.slice m3 ps.length m4) ∧ w'.cell? ⟨W.heap.size + 1, 4, none⟩ = some (.int .i64 y) ∧ w'.cell? ⟨W.heap.size + 1, 5, none⟩ = some (.int .i64 z) ∧ w'.cell? ⟨W.heap.size + 1, 6, none⟩ = some (.int .u64 x) ∧ Below W.heap.size W w') hkp.out (hrs.out (.slice m5 b.length m6) (.slice m1 bs.length m2) (.slice m3 ps.length m4) W' (HK.out.below h.2.2.2.2.2.2.2) hl (HB.out.below h.2.2.2.2.2.2.2) (HP.out.below h.2.2.2.2.2.2.2) MV.out n1 n2) h)
  have q3 := Lib.hid (fun W' (h : (fun w' : World => w'.cell? ⟨W.heap.size + 1, 0, none⟩ = some (.int .i64 a) ∧ w'.cell? ⟨W.heap.size + 1, 1, none⟩ = some (.int .i64 r) ∧ w'.cell? ⟨W.heap.size + 1, 2, none⟩ = some (.slice m1 bs.length m2) ∧ w'.cell? ⟨W.heap.size + 1, 3, none⟩ = some (.slice m3 ps.length m4) ∧ w'.cell? ⟨W.heap.size + 1, 4, none⟩ = some (.int .i64 y) ∧ w'.cell? ⟨W.heap.size + 1, 5, none⟩ = some (.int .i64 z) ∧ w'.cell? ⟨W.heap.size + 1, 6, none⟩ = some (.int .u64 x) ∧ Below W.heap.size W w') W') => keepB (fun w' : World => w'.cell? ⟨W.heap.size + 1, 0, none⟩ = some (.int .i64 a) ∧ w'.cell? ⟨W.heap.size + 1, 1, none⟩ = some (.int .i64 r) ∧ w'.cell? ⟨W.heap.size + 1, 2, none⟩ = some (.slice m1 bs.length m2) ∧ w'.cell? ⟨W.heap.size + 1, 3, none⟩ = some (.slice m3 ps.length m4) ∧ w'.cell? ⟨W.heap.size + 1, 4, none⟩ = some (.int .i64 y) ∧ w'.cell? ⟨W.heap.size + 1, 5, none⟩ = some (.int .i64 z) ∧ w'.cell? ⟨W.heap.size + 1, 6, none⟩ = some (.int .u64 x) ∧ Below W.heap.size W w') hkp.out (hpc.out (.slice m5 b.length m6) (.slice m1 bs.length m2) (.slice m3 ps.length m4) W' (HK.out.below h.2.2.2.2.2.2.2) hl (HB.out.below h.2.2.2.2.2.2.2) (HP.out.below h.2.2.2.2.2.2.2) MV.out hx n1 n2 (HW.out.below h.2.2.2.2.2.2.2)) h)
  have q4 := Lib.hid (fun W' (h : (fun w' : World => w'.cell? ⟨W.heap.size + 1, 0, none⟩ = some (.int .i64 a) ∧ w'.cell? ⟨W.heap.size + 1, 1, none⟩ = some (.int .i64 r) ∧ w'.cell? ⟨W.heap.size + 1, 2, none⟩ = some (.slice m1 bs.length m2) ∧ w'.cell? ⟨W.heap.size + 1, 3, none⟩ = some (.slice m3 ps.length m4) ∧ w'.cell? ⟨W.heap.size + 1, 4, none⟩ = some (.int .i64 y) ∧ w'.cell? ⟨W.heap.size + 1, 5, none⟩ = some (.int .i64 z) ∧ w'.cell? ⟨W.heap.size + 1, 6, none⟩ = some (.int .u64 x) ∧ Below W.heap.size W w') W') => keepB (fun w' : World => w'.cell? ⟨W.heap.size + 1, 0, none⟩ = some (.int .i64 a) ∧ w'.cell? ⟨W.heap.size + 1, 1, none⟩ = some (.int .i64 r) ∧ w'.cell? ⟨W.heap.size + 1, 2, none⟩ = some (.slice m1 bs.length m2) ∧ w'.cell? ⟨W.heap.size + 1, 3, none⟩ = some (.slice m3 ps.length m4) ∧ w'.cell? ⟨W.heap.size + 1, 4, none⟩ = some (.int .i64 y) ∧ w'.cell? ⟨W.heap.size + 1, 5, none⟩ = some (.int .i64 z) ∧ w'.cell? ⟨W.heap.size + 1, 6, none⟩ = some (.int .u64 x) ∧ Below W.heap.size W w') hkp.out (hrc.out (.slice m5 b.length m6) (.slice m1 bs.length m2) (.slice m3 ps.length m4) W' (HK.out.below h.2.2.2.2.2.2.2) hl (HB.out.below h.2.2.2.2.2.2.2) (HP.out.below h.2.2.2.2.2.2.2) MV.out hx n1 n2) h)
  clear c0 c1 c2 c3 c4 c5 c6 H1 H2 H3 H4 H5 H6 hps hrs hpc hrc HK HB HP MV HW A0 A1 I0 HG G1
  go_wp2_with fail
  go_region_held3 (fun w' : World => w'.cell? ⟨W.heap.size + 1, 0, none⟩ = some (.int .i64 a) ∧ w'.cell? ⟨W.heap.size + 1, 1, none⟩ = some (.int .i64 r) ∧ w'.cell? ⟨W.heap.size + 1, 2, none⟩ = some (.slice m1 bs.length m2) ∧ w'.cell? ⟨W.heap.size + 1, 3, none⟩ = some (.slice m3 ps.length m4) ∧ w'.cell? ⟨W.heap.size + 1, 4, none⟩ = some (.int .i64 y) ∧ w'.cell? ⟨W.heap.size + 1, 5, none⟩ = some (.int .i64 z) ∧ w'.cell? ⟨W.heap.size + 1, 6, none⟩ = some (.int .u64 x) ∧ Below W.heap.size W w')
    (first | assumption | exact hkp.out _ _ hS (Below.drew (Below.refl _ _)) | exact hkp.out _ _ (by assumption) ((Below.refl _ _).alloc (Nat.le_refl _) _))
    (first
      | (go_at_call 16; refine (q1.out _ (by assumption)).mono ?_; rintro e w3 ⟨rfl, kS⟩)
      | (go_at_call 17; refine (q2.out _ (by assumption)).mono ?_; rintro e w3 ⟨rfl, kS⟩)
      | (go_at_call 18; refine (q3.out _ (by assumption)).mono ?_; rintro e w3 ⟨rfl, kS⟩)
      | (go_at_call 19; refine (q4.out _ (by assumption)).mono ?_; rintro e w3 ⟨rfl, kS⟩))
  all_goals
    go_wp2_with fail
    go_ret
    exact ⟨rfl, (show (fun w' : World => w'.cell? ⟨W.heap.size + 1, 0, none⟩ = some (.int .i64 a) ∧ w'.cell? ⟨W.heap.size + 1, 1, none⟩ = some (.int .i64 r) ∧ w'.cell? ⟨W.heap.size + 1, 2, none⟩ = some (.slice m1 bs.length m2) ∧ w'.cell? ⟨W.heap.size + 1, 3, none⟩ = some (.slice m3 ps.length m4) ∧ w'.cell? ⟨W.heap.size + 1, 4, none⟩ = some (.int .i64 y) ∧ w'.cell? ⟨W.heap.size + 1, 5, none⟩ = some (.int .i64 z) ∧ w'.cell? ⟨W.heap.size + 1, 6, none⟩ = some (.int .u64 x) ∧ Below W.heap.size W w') _ by assumption).2.2.2.2.2.2.2⟩

theorem certChecks_walk {H : Type} (enc : TypeId × Value → H) (W : World) (base : Nat) (v0 : Value) (d0 : DataW H) (p0 : List MemPlace)
    (h0 : DataW.Trod enc Tryd.prog W 0 (fun _ => true) true 33 v0 d0 p0) (o0 : Value.okWide Tryd.prog W .any base 33 v0)
    (hsz : (DataW.weightsEach Tryd.prog [33] [d0]).all (· ≤ reachBytes) = true) (hg : GW W) :
    Calls Tryd.prog 3 #[v0] W fun e W' => e = .returned (.bool true) ∧ Below W.heap.size W W' := by
  obtain ⟨cs, rfl, hs⟩ := okWide_struct Tryd.underlying33 o0
  obtain ⟨fuel, hn⟩ := h0
  have hC : Tryd.prog.cellsOf 33 = 10 := by kernel_rfl
  have k1 : Tryd.prog.cellsOf 3 = 1 := by kernel_rfl
  have k2 : Tryd.prog.cellsOf 22 = 1 := by kernel_rfl
  have k3 : Tryd.prog.cellsOf 31 = 7 := by kernel_rfl
  have k4 : Tryd.prog.cellsOf 9 = 1 := by kernel_rfl
  obtain ⟨xs, m, _, hx, _, hlen, hf⟩ := DataW.trod_struct Tryd.underlying33 hn
  have hl : cs.toList.length = 10 := by simpa using hs.trans hC
  simp only [Value.cells] at hf
  obtain ⟨cl⟩ := cs
  simp only at hl hf
  simp only [Prod.mk.injEq] at hx
  obtain ⟨rfl, _⟩ := hx
  have hw := sized_at hsz (j := 0) rfl rfl
  match cl, hl, xs, hlen with
  | [e0, e1, e2, e3, e4, e5, e6, e7, e8, e9], _, [y0, y1, y2, y3], _ =>
    have h0 := hf 0 _ rfl
    have h1 := hf 1 _ rfl
    have h2 := hf 2 _ rfl
    have h3 := hf 3 _ rfl
    simp only [List.map_cons, List.map_nil, DataW.weights, Tryd.underlying33] at hw
    obtain ⟨n, n1, n2, rfl, _⟩ := trod_i64 (v := e0) (y := y0) Tryd.underlying3 (by simpa [k1] using h0)
    obtain ⟨b, hbk, _, hd⟩ := trod_seals (W := W) (v := e1) (y := y1) Tryd.underlying22 (by simpa [k2] using h1)
    have hbl := seals_reach hd (sized_at hw (j := 1) rfl rfl)
    obtain ⟨p, bv, pv, he, hbv, hpv, mv, hx⟩ := elem_prf (W := W) m [e2, e3, e4, e5, e6, e7, e8] y2 rfl (by simpa [k3] using h2) (sized_at hw (j := 2) rfl rfl)
    simp only [List.cons.injEq, and_true] at he
    obtain ⟨rfl, rfl, rfl, rfl, rfl, rfl, rfl⟩ := he
    obtain ⟨d, rfl, hy⟩ := trod_tx (v := e9) (y := y3) Tryd.underlying9 (by simpa [k4] using h3)
    exact certChecks_core n b p d _ _ _ W hbk.flat (by omega) hbv hpv mv hx (sized_string hw (j := 3) rfl (by rw [hy]; rfl)) n1 n2 hg
end Go.Proofs.YtflmfbcjmjlkbaaDoor
