/- Package vertex as it landed: a vertex's bytes. -/
import Derived.Test.YtmhohnffaffdfaaVtxEach
namespace Go.Proofs.Ytmhohnffaffdfaa
open Go.RowKit
set_option maxRecDepth 100000

/-- An array of four texts, in a block. -/
def QBox (W : World) (A : Nat) (a b c d : Value) : Prop := W.heap[A]? = some (.cells #[a, b, c, d] 61 (0, 0))
section
variable {W W' : World} {A B n : Nat} {a b c d p q : Value} {x y r s : Int}
theorem QBox.lt (h : QBox W A a b c d) : A < W.heap.size := (Array.getElem?_eq_some_iff.1 h).1
theorem QBox.facts (h : QBox W A a b c d) : W.cell? ⟨A, 0, none⟩ = some a ∧ W.cell? ⟨A, 1, none⟩ = some b ∧ W.cell? ⟨A, 2, none⟩ = some c ∧ W.cell? ⟨A, 3, none⟩ = some d ∧ W.frozen? ⟨A, 0, none⟩ = false ∧ W.frozen? ⟨A, 1, none⟩ = false ∧ W.frozen? ⟨A, 2, none⟩ = false ∧ W.frozen? ⟨A, 3, none⟩ = false := by
  have e : W.heap[A]? = _ := h
  refine ⟨?_, ?_, ?_, ?_, ?_, ?_, ?_, ?_⟩ <;> simp [World.cell?, World.frozen?, e]
theorem QBox.new (W : World) (a b c d : Value) : QBox (W.alloc (.cells #[a, b, c, d] 61)) W.heap.size a b c d := World.alloc_heap_new W _
theorem QBox.kept (h : QBox W A a b c d) (hb : Below W.heap.size W W') : QBox W' A a b c d := (hb.block A h.lt).trans h
theorem heap_setQ {W : World} {B k : Nat} {cs : Array Value} {t : TypeId} (h : W.heap[B]? = some (.cells cs t (0, 0))) (v : Value) : (W.setCell ⟨B, k, none⟩ v).heap[B]? = some (.cells (cs.setIfInBounds k v) t (0, 0)) := by
  obtain ⟨hlt, hk⟩ := Array.getElem?_eq_some_iff.1 h
  show (W.heap.modify B _)[B]? = _
  rw [Array.getElem?_eq_getElem (by rw [Array.size_modify]; exact hlt), Array.getElem_modify_self, hk]
  rfl
theorem QBox.set0 (h : QBox W A a b c d) (v : Value) : QBox (W.setCell ⟨A, 0, none⟩ v) A v b c d := heap_setQ (k := 0) h v
theorem QBox.set1 (h : QBox W A a b c d) (v : Value) : QBox (W.setCell ⟨A, 1, none⟩ v) A a v c d := heap_setQ (k := 1) h v
theorem QBox.set2 (h : QBox W A a b c d) (v : Value) : QBox (W.setCell ⟨A, 2, none⟩ v) A a b v d := heap_setQ (k := 2) h v
theorem QBox.set3 (h : QBox W A a b c d) (v : Value) : QBox (W.setCell ⟨A, 3, none⟩ v) A a b c v := heap_setQ (k := 3) h v
theorem VBox.other (h : VBox W B x y p q r s) (hne : B ≠ A) (k : Nat) (v : Value) : VBox (W.setCell ⟨A, k, none⟩ v) B x y p q r s := (Below.heap_setCell W ⟨A, k, none⟩ v B hne).trans h
theorem below_setQ (h : Below n W W') (hB : n ≤ B) (k : Nat) (v : Value) : Below n W (W'.setCell ⟨B, k, none⟩ v) := h.setCell (p := ⟨B, k, none⟩) hB v
end
theorem cat_is (x y z : List UInt8) (hz : x ++ y = z) (h : z.length ≤ 140737488351232) (W : World) : (Op.stringOp .add (⟨x.toArray⟩ : ByteArray) ⟨y.toArray⟩).run Try.prog W = .ok (tx z) W := by
  subst hz
  exact cat_run x y (by rw [List.length_append] at h; omega) W

theorem idx4_0 (a b c d : Int) (W : World) : (Instr.index 62 (.agg #[.int .i64 a, .int .i64 b, .int .i64 c, .int .i64 d]) (.int .i64 0)).run Try.prog W = .ok (.int .i64 a) W := by kernel_rfl
theorem idx4_1 (a b c d : Int) (W : World) : (Instr.index 62 (.agg #[.int .i64 a, .int .i64 b, .int .i64 c, .int .i64 d]) (.int .i64 1)).run Try.prog W = .ok (.int .i64 b) W := by kernel_rfl
theorem idx4_2 (a b c d : Int) (W : World) : (Instr.index 62 (.agg #[.int .i64 a, .int .i64 b, .int .i64 c, .int .i64 d]) (.int .i64 2)).run Try.prog W = .ok (.int .i64 c) W := by kernel_rfl
theorem idx4_3 (a b c d : Int) (W : World) : (Instr.index 62 (.agg #[.int .i64 a, .int .i64 b, .int .i64 c, .int .i64 d]) (.int .i64 3)).run Try.prog W = .ok (.int .i64 d) W := by kernel_rfl
attribute [local go_sem] idx4_0 idx4_1 idx4_2 idx4_3
set_option maxHeartbeats 8000000 in
theorem pvbytes_ok (v : Vt.Vtx) (bv pv : Value) (n : Int) (w : World) (hb : BtsAt w bv v.2.2.1) (hp : TxAt w pv v.2.2.2.1) (n1 : -9223372036854775808 ≤ n) (n2 : n ≤ 9223372036854775807) (hm : Vt.may v n = true) :
    Calls Try.prog 11 #[vtxV v.1 v.2.1 bv pv v.2.2.2.2.1 v.2.2.2.2.2, .int .i64 n] w fun e w' => e = .returned (.tuple #[tx (Vt.bytes v), .int .i64 0]) ∧ Below w.heap.size w w' := by
  have hf := Vt.fits hm
  have hlen := Vt.bytes_len hm
  have HM := Lib.hid hm
  obtain ⟨f1, f2, a1, a2, r1, r2, b1, b2, p1, p2, x1, x2, y1, y2⟩ := hf
  obtain ⟨a, r, bs, ps, x, y⟩ := v
  simp only [] at hb hp a1 a2 r1 r2 b1 b2 p1 p2 x1 x2 y1 y2
  obtain ⟨na, hna⟩ : ∃ z, Dg.num a.toNat = z := ⟨_, rfl⟩
  obtain ⟨nr, hnr⟩ : ∃ z, Dg.num r.toNat = z := ⟨_, rfl⟩
  obtain ⟨nx, hnx⟩ : ∃ z, Dg.num x.toNat = z := ⟨_, rfl⟩
  obtain ⟨ny, hny⟩ : ∃ z, Dg.num y.toNat = z := ⟨_, rfl⟩
  obtain ⟨rb, hrb⟩ : ∃ z, Dg.row (bs.map Bt.bytes) = z := ⟨_, rfl⟩
  obtain ⟨rp, hrp⟩ : ∃ z, Dg.row ps = z := ⟨_, rfl⟩
  obtain ⟨s1, hs1⟩ : ∃ z, na ++ nr = z := ⟨_, rfl⟩
  obtain ⟨s2, hs2⟩ : ∃ z, s1 ++ rb = z := ⟨_, rfl⟩
  obtain ⟨s3, hs3⟩ : ∃ z, s2 ++ rp = z := ⟨_, rfl⟩
  obtain ⟨s4, hs4⟩ : ∃ z, s3 ++ nx = z := ⟨_, rfl⟩
  obtain ⟨s5, hs5⟩ : ∃ z, s4 ++ ny = z := ⟨_, rfl⟩
  have hall : Vt.bytes (a, r, bs, ps, x, y) = s5 := by
    simp only [Vt.bytes, hna, hnr, hnx, hny, hrb, hrp, ← hs5, ← hs4, ← hs3, ← hs2, ← hs1, List.append_assoc]
  rw [hall] at hlen ⊢
  have l5 : s5.length = s4.length + ny.length := by rw [← hs5, List.length_append]
  have l4 : s4.length = s3.length + nx.length := by rw [← hs4, List.length_append]
  have l3 : s3.length = s2.length + rp.length := by rw [← hs3, List.length_append]
  have l2 : s2.length = s1.length + rb.length := by rw [← hs2, List.length_append]
  have e1 := fun W => cat_is na nr s1 hs1 (by omega) W
  have e2 := fun W => cat_is s1 rb s2 hs2 (by omega) W
  have e3 := fun W => cat_is s2 rp s3 hs3 (by omega) W
  have e4 := fun W => cat_is s3 nx s4 hs4 (by omega) W
  have e5 := fun W => cat_is s4 ny s5 hs5 (by omega) W
  have tb : (Dg.texts (bs.map Bt.bytes)).length ≤ 4294967296 := by
    have : rb.length ≤ 4600 := by omega
    rw [← hrb, Dg.row, List.length_append] at this; omega
  have tp : (Dg.texts ps).length ≤ 4294967296 := by
    have : rp.length ≤ 4600 := by omega
    rw [← hrp, Dg.row, List.length_append] at this; omega
  have lbm : (bs.map Bt.bytes).length ≤ 4294967296 := by rw [List.length_map]; omega
  have lpm : ps.length ≤ 4294967296 := by omega
  have hnum := Lib.hid (show ∀ (z : Int) (l : List UInt8), 0 ≤ z → z ≤ 9223372036854775807 → Dg.num z.toNat = l → ∀ W, Calls Try.prog 25 #[.int .u64 z] W fun e w' => e = .returned (tx l) ∧ Below W.heap.size W w' from fun z l h0 h1 h W => bnum_eq h0 h1 h W)
  have NA := Lib.hid (fun W => hnum.out a na (by omega) (by omega) hna W)
  have NR := Lib.hid (fun W => hnum.out r nr (by omega) (by omega) hnr W)
  have NX := Lib.hid (fun W => hnum.out x nx (by omega) (by omega) hnx W)
  have NY := Lib.hid (fun W => hnum.out y ny (by omega) (by omega) hny W)
  have wa : IntKind.u64.wrap a = a := IntWalk.u64_in _ ⟨by omega, by omega⟩
  have wr : IntKind.u64.wrap r = r := IntWalk.u64_in _ ⟨by omega, by omega⟩
  have wx : IntKind.u64.wrap x = x := IntWalk.u64_in _ ⟨by omega, by omega⟩
  have wy : IntKind.u64.wrap y = y := IntWalk.u64_in _ ⟨by omega, by omega⟩
  have VB := Lib.hid (VBox.new w a r bv pv x y)
  have HG := Lib.hid (show Below w.heap.size w (w.alloc (.cells #[.int .i64 a, .int .i64 r, bv, pv, .int .i64 x, .int .i64 y] 28)) from (Below.refl _ _).alloc (Nat.le_refl _) _)
  have HB := Lib.hid hb
  have HP := Lib.hid hp
  obtain ⟨ab, cb, rfl⟩ := hb.len
  obtain ⟨ap, cp, rfl⟩ := hp.len
  have B2 := Lib.hid b2
  have HS := Lib.hid (show Vt.Small bs from fun b hb => may_small (b2 b hb))
  have RB := Lib.hid (fun (u : Value) (W : World) (h : TxAt W u (bs.map Bt.bytes)) => row_eq hrb W h lbm tb)
  have RP := Lib.hid (fun (W : World) (h : TxAt W (.slice ap ps.length cp) ps) => row_eq hrp W h lpm tp)
  have LB := Lib.hid b1
  have LB2 := Lib.hid (show bs.length ≤ 140737488351232 by omega)
  have LP2 := Lib.hid (show ps.length ≤ 140737488351232 by omega)
  clear hm hb hp b2 hnum hna hnr hnx hny hrb hrp hs1 hs2 hs3 hs4 hs5 hall l5 l4 l3 l2 tb tp lbm lpm a1 a2 r1 r2 x1 x2 y1 y2 p1 p2 b1 hlen f1 f2
  go_enter Try.func11, Try.ntmps11
  go_wp2_with fail
  refine (pvmay_eq (v := (a, r, bs, ps, x, y)) HM.out _ _ _ (HB.out.below HG.out) (HP.out.below HG.out) LB2.out HS.out LP2.out n1 n2).mono ?_
  rintro e w1 ⟨rfl, g1⟩
  have v1 := Lib.hid (VB.out.kept g1)
  obtain ⟨c0, c1, c2, c3, c4, c5⟩ := v1.out.cells
  have G1 := Lib.hid (HG.out.trans (g1.mono (by simp)))
  clear g1
  go_wp2_with fail
  refine (peachB _ bs _ (HB.out.below G1.out) LB.out B2.out).mono ?_
  rintro e w2 ⟨u, rfl, hu, g2⟩
  clear c0 c1 c2 c3 c4 c5
  obtain ⟨au, cu, hue⟩ := hu.len
  rw [List.length_map] at hue
  have v2 := Lib.hid (v1.out.kept g2)
  have v3 := Lib.hid (v2.out.alloc (.cells #[.string ⟨#[]⟩, .string ⟨#[]⟩, .string ⟨#[]⟩, .string ⟨#[]⟩] 61))
  have q3 := Lib.hid (QBox.new w2 (.string ⟨#[]⟩) (.string ⟨#[]⟩) (.string ⟨#[]⟩) (.string ⟨#[]⟩))
  have G2 := Lib.hid (grow_trans G1.out g2)
  have J3 := Lib.hid ((Below.refl w2.heap.size w2).alloc (Nat.le_refl _) (.cells #[.string ⟨#[]⟩, .string ⟨#[]⟩, .string ⟨#[]⟩, .string ⟨#[]⟩] 61))
  have HU := Lib.hid hu
  have hne : w.heap.size ≠ w2.heap.size := by have := v2.out.lt; omega
  obtain ⟨c0, c1, c2, c3, c4, c5⟩ := v3.out.cells
  clear g2 hu
  subst hue
  go_wp2_with fail
  refine wp_loop_rounds 5 ?_
  rw [rounds_succ]
  go_wp2_with fail
  refine (NA.out _).mono ?_
  rintro e w4 ⟨rfl, g4⟩
  have p4 := Lib.hid (q3.out.kept g4)
  have q4 := Lib.hid (p4.out.set0 (tx na))
  have v4 := Lib.hid ((v3.out.kept g4).other (A := w2.heap.size) hne 0 (tx na))
  have J4 := Lib.hid (below_setQ (J3.out.trans (g4.mono J3.out.size)) (Nat.le_refl _) 0 (tx na))
  obtain ⟨k0, k1, k2, k3, f0, f1, f2, f3⟩ := p4.out.facts
  clear g4
  go_wp2_with fail
  rw [rounds_succ]
  clear k0 k1 k2 k3 f0 f1 f2 f3
  go_wp2_with fail
  refine (NR.out _).mono ?_
  rintro e w5 ⟨rfl, g4⟩
  have p5 := Lib.hid (q4.out.kept g4)
  have q5 := Lib.hid (p5.out.set1 (tx nr))
  have v5 := Lib.hid ((v4.out.kept g4).other (A := w2.heap.size) hne 1 (tx nr))
  have J5 := Lib.hid (below_setQ (J4.out.trans (g4.mono J4.out.size)) (Nat.le_refl _) 1 (tx nr))
  obtain ⟨k0, k1, k2, k3, f0, f1, f2, f3⟩ := p5.out.facts
  clear g4
  go_wp2_with fail
  rw [rounds_succ]
  clear k0 k1 k2 k3 f0 f1 f2 f3
  go_wp2_with fail
  refine (NX.out _).mono ?_
  rintro e w6 ⟨rfl, g4⟩
  have p6 := Lib.hid (q5.out.kept g4)
  have q6 := Lib.hid (p6.out.set2 (tx nx))
  have v6 := Lib.hid ((v5.out.kept g4).other (A := w2.heap.size) hne 2 (tx nx))
  have J6 := Lib.hid (below_setQ (J5.out.trans (g4.mono J5.out.size)) (Nat.le_refl _) 2 (tx nx))
  obtain ⟨k0, k1, k2, k3, f0, f1, f2, f3⟩ := p6.out.facts
  clear g4
  go_wp2_with fail
  rw [rounds_succ]
  clear k0 k1 k2 k3 f0 f1 f2 f3
  go_wp2_with fail
  refine (NY.out _).mono ?_
  rintro e w7 ⟨rfl, g4⟩
  have p7 := Lib.hid (q6.out.kept g4)
  have q7 := Lib.hid (p7.out.set3 (tx ny))
  have v7 := Lib.hid ((v6.out.kept g4).other (A := w2.heap.size) hne 3 (tx ny))
  have J7 := Lib.hid (below_setQ (J6.out.trans (g4.mono J6.out.size)) (Nat.le_refl _) 3 (tx ny))
  obtain ⟨k0, k1, k2, k3, f0, f1, f2, f3⟩ := p7.out.facts
  clear g4
  go_wp2_with fail
  rw [rounds_succ]
  clear k0 k1 k2 k3 f0 f1 f2 f3
  obtain ⟨k0, k1, k2, k3, _⟩ := q7.out.facts
  obtain ⟨_, _, _, d3, _, _⟩ := v7.out.cells
  have hS : (fun w' : World => w'.cell? ⟨w2.heap.size, 0, none⟩ = some (tx na) ∧ w'.cell? ⟨w2.heap.size, 1, none⟩ = some (tx nr) ∧ w'.cell? ⟨w2.heap.size, 2, none⟩ = some (tx nx) ∧ w'.cell? ⟨w2.heap.size, 3, none⟩ = some (tx ny) ∧ w'.cell? ⟨w.heap.size, 3, none⟩ = some (.slice ap ps.length cp) ∧ Below w2.heap.size w2 w') (w7.setCell ⟨w2.heap.size, 3, none⟩ (tx ny)) := ⟨k0, k1, k2, k3, d3, J7.out⟩
  have hk := Lib.hid (show ∀ a b : World, (fun w' : World => w'.cell? ⟨w2.heap.size, 0, none⟩ = some (tx na) ∧ w'.cell? ⟨w2.heap.size, 1, none⟩ = some (tx nr) ∧ w'.cell? ⟨w2.heap.size, 2, none⟩ = some (tx nx) ∧ w'.cell? ⟨w2.heap.size, 3, none⟩ = some (tx ny) ∧ w'.cell? ⟨w.heap.size, 3, none⟩ = some (.slice ap ps.length cp) ∧ Below w2.heap.size w2 w') a → Below a.heap.size a b → (fun w' : World => w'.cell? ⟨w2.heap.size, 0, none⟩ = some (tx na) ∧ w'.cell? ⟨w2.heap.size, 1, none⟩ = some (tx nr) ∧ w'.cell? ⟨w2.heap.size, 2, none⟩ = some (tx nx) ∧ w'.cell? ⟨w2.heap.size, 3, none⟩ = some (tx ny) ∧ w'.cell? ⟨w.heap.size, 3, none⟩ = some (.slice ap ps.length cp) ∧ Below w2.heap.size w2 w') b from fun a b ⟨k0, k1, k2, k3, d3, kb⟩ h => ⟨below_cell h k0, below_cell h k1, below_cell h k2, below_cell h k3, below_cell h d3, kb.trans (h.mono kb.size)⟩)
  have hf := Lib.hid (show ∀ (u : Value) (R : List UInt8), (u = .slice au bs.length cu ∧ R = rb) ∨ (u = .slice ap ps.length cp ∧ R = rp) → ∀ W, (fun w' : World => w'.cell? ⟨w2.heap.size, 0, none⟩ = some (tx na) ∧ w'.cell? ⟨w2.heap.size, 1, none⟩ = some (tx nr) ∧ w'.cell? ⟨w2.heap.size, 2, none⟩ = some (tx nx) ∧ w'.cell? ⟨w2.heap.size, 3, none⟩ = some (tx ny) ∧ w'.cell? ⟨w.heap.size, 3, none⟩ = some (.slice ap ps.length cp) ∧ Below w2.heap.size w2 w') W → Calls Try.prog 26 #[u] W fun e w' => e = .returned (tx R) ∧ (fun w' : World => w'.cell? ⟨w2.heap.size, 0, none⟩ = some (tx na) ∧ w'.cell? ⟨w2.heap.size, 1, none⟩ = some (tx nr) ∧ w'.cell? ⟨w2.heap.size, 2, none⟩ = some (tx nx) ∧ w'.cell? ⟨w2.heap.size, 3, none⟩ = some (tx ny) ∧ w'.cell? ⟨w.heap.size, 3, none⟩ = some (.slice ap ps.length cp) ∧ Below w2.heap.size w2 w') w' from by
    rintro u R (⟨rfl, rfl⟩ | ⟨rfl, rfl⟩) W h
    · exact keepB (fun w' : World => w'.cell? ⟨w2.heap.size, 0, none⟩ = some (tx na) ∧ w'.cell? ⟨w2.heap.size, 1, none⟩ = some (tx nr) ∧ w'.cell? ⟨w2.heap.size, 2, none⟩ = some (tx nx) ∧ w'.cell? ⟨w2.heap.size, 3, none⟩ = some (tx ny) ∧ w'.cell? ⟨w.heap.size, 3, none⟩ = some (.slice ap ps.length cp) ∧ Below w2.heap.size w2 w') hk.out (RB.out _ W (HU.out.below h.2.2.2.2.2)) h
    · exact keepB (fun w' : World => w'.cell? ⟨w2.heap.size, 0, none⟩ = some (tx na) ∧ w'.cell? ⟨w2.heap.size, 1, none⟩ = some (tx nr) ∧ w'.cell? ⟨w2.heap.size, 2, none⟩ = some (tx nx) ∧ w'.cell? ⟨w2.heap.size, 3, none⟩ = some (tx ny) ∧ w'.cell? ⟨w.heap.size, 3, none⟩ = some (.slice ap ps.length cp) ∧ Below w2.heap.size w2 w') hk.out (RP.out W (HP.out.below (grow_trans G2.out h.2.2.2.2.2))) h)
  clear k0 k1 k2 k3 d3 c0 c1 c2 c3 c4 c5 NA NR NX NY wa wr wx wy RB RP HM VB HG HB HP B2 HS LB LB2 LP2 v1 v2 v3 v4 v5 v6 v7 q3 q4 q5 q6 q7 p4 p5 p6 p7 J3 J4 J5 J6 J7 HU G1
  go_wp2_with fail
  go_region_held3 (fun w' : World => w'.cell? ⟨w2.heap.size, 0, none⟩ = some (tx na) ∧ w'.cell? ⟨w2.heap.size, 1, none⟩ = some (tx nr) ∧ w'.cell? ⟨w2.heap.size, 2, none⟩ = some (tx nx) ∧ w'.cell? ⟨w2.heap.size, 3, none⟩ = some (tx ny) ∧ w'.cell? ⟨w.heap.size, 3, none⟩ = some (.slice ap ps.length cp) ∧ Below w2.heap.size w2 w')
    (first | assumption | exact hk.out _ _ hS (Below.drew (Below.refl _ _)) | exact hk.out _ _ (by assumption) ((Below.refl _ _).alloc (Nat.le_refl _) _))
    ((go_at_call 26; refine (hf.out _ _ (by first | exact .inl ⟨rfl, rfl⟩ | exact .inr ⟨rfl, rfl⟩) _ (by assumption)).mono ?_; rintro e w1 ⟨rfl, kS⟩))
  all_goals (go_wp2_with fail; go_ret2; exact ⟨rfl, grow_trans G2.out (show (fun w' : World => w'.cell? ⟨w2.heap.size, 0, none⟩ = some (tx na) ∧ w'.cell? ⟨w2.heap.size, 1, none⟩ = some (tx nr) ∧ w'.cell? ⟨w2.heap.size, 2, none⟩ = some (tx nx) ∧ w'.cell? ⟨w2.heap.size, 3, none⟩ = some (tx ny) ∧ w'.cell? ⟨w.heap.size, 3, none⟩ = some (.slice ap ps.length cp) ∧ Below w2.heap.size w2 w') _ by assumption).2.2.2.2.2⟩)
end Go.Proofs.Ytmhohnffaffdfaa
