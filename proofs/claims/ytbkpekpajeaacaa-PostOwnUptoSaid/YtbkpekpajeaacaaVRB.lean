/- The document's Bytes of batches and vertices. -/
import Derived.Test.YtbkpekpajeaacaaGDR
import Derived.Test.YtbkpekpajeaacaaGBat
import Derived.Test.YtbkpekpajeaacaaGVtx
import Derived.Test.YtbkpekpajeaacaaVtxA
import Derived.Test.YtbkpekpajeaacaaVtxBC
import Derived.RangeFuncNested
import Derived.RangeFuncBound
import Derived.RangeFuncCalls
import Derived.RangeFuncLeaves
import Derived.Shelf.Abstract
import Derived.Shelf.RegionOpen
import Derived.WalkKit
import Derived.OwnWalkIn
import Derived.TacticsInMore
import Derived.LoopNIn
import Derived.LoopIn
import Derived.Maps.AppendAt
import Derived.Deep.QuietTactic
import Derived.BigQuiet
import Derived.Laws.StructEq
import Derived.Laws.BitsAll
import Derived.Deep.SlicePairs
import Derived.Lib.SmallJoins
import Derived.RangeFuncBox
import Derived.Deep.RegionHeld3
import Derived.Laws.BitsAllLaws
import Derived.Lib.Strings
set_option maxRecDepth 100000
namespace Go.Proofs.Ytbkpekpajeaacaa
open Go.RowKit
attribute [local go_sem] ByteArray.mk_append_mk
theorem rrow_eq {v : Value} {ls : List (List UInt8)} {r : List UInt8} (h : Dg.row ls = r) (w : World) (hv : TxAt w v ls) (hl : ls.length ≤ 4294967296) (ht : (Dg.texts ls).length ≤ 4294967296) :
    Calls Try.prog 69 #[v] w fun e w' => e = .returned (tx r) ∧ Below w.heap.size w w' := by subst h; exact rrow_any v ls w hv hl ht
theorem rbnum_eq {n : Int} {l : List UInt8} (h0 : 0 ≤ n) (h1 : n ≤ 9223372036854775807) (h : Dg.num n.toNat = l) (w : World) :
    Calls Try.prog 41 #[.int .u64 n] w fun e w' => e = .returned (tx l) ∧ Below w.heap.size w w' := by
  obtain ⟨m, rfl⟩ := Int.eq_ofNat_of_zero_le h0
  subst h
  exact rnum_any m (by omega) w
set_option maxHeartbeats 2000000 in
theorem rbbytes (o q : Int) (v : Value) (l : List (List UInt8)) (w : World) (hv : TxAt w v l) (hl : l.length ≤ 140737488351232) :
    Calls Try.prog 68 #[batV o q v] w fun e w' => e = .returned (.tuple #[tx (Bt.bytesR (o, q, l)).1, .int .i64 (Bt.bytesR (o, q, l)).2]) ∧ Below w.heap.size w w' := by
  have hg : Below w.heap.size w (w.alloc (.cells #[.int .i64 o, .int .i64 q, v] 105)) := (Below.refl _ _).alloc (Nat.le_refl _) _
  have hmay := rbmay o q v l _ (hv.below hg)
  have hbx := BBox.new w o q v
  have HBX := Lib.hid hbx
  have HG := Lib.hid hg
  have HV := Lib.hid hv
  obtain ⟨av, cv, rfl⟩ := hv.len
  cases hm : Bt.may (o, q, l) with
  | false =>
    rw [Bt.bytesR_no hm]
    rw [hm] at hmay
    have HM := Lib.hid hmay
    clear hmay hm hg hv hbx
    go_enter Try.func68, Try.ntmps68
    go_wp2_with fail
    refine HM.out.mono ?_
    rintro e w1 ⟨rfl, hb⟩
    have hb2 := grow_trans HG.out (hb.mono (by simp))
    go_wp2
    go_ret2
    exact ⟨rfl, hb2⟩
  | true =>
    rw [Bt.bytesR_ok hm]
    rw [hm] at hmay
    have hmm := (Bt.may_iff _).1 hm
    simp only [] at hmm
    obtain ⟨m1, m2, m3, m4, m5, m6, m7⟩ := hmm
    have ht := Bt.texts_48 l m7
    obtain ⟨n3, hn3⟩ : ∃ n3, Dg.row l = n3 := ⟨_, rfl⟩
    have l1 : (Dg.num o.toNat).length ≤ 9 := Dg.num_len _
    have l2 : (Dg.num q.toNat).length ≤ 9 := Dg.num_len _
    have l3 : n3.length ≤ 300 := by rw [← hn3, Dg.row, List.length_append]; have := Dg.num_len l.length; omega
    have HE := Lib.hid (show Bt.bytes (o, q, l) = Dg.num o.toNat ++ (Dg.num q.toNat ++ n3) by rw [← hn3, ← List.append_assoc]; rfl)
    have b1 : ¬ ((Dg.num o.toNat).length + (Dg.num q.toNat).length > 9223372036854775807) := by omega
    have b2 : ¬ ((Dg.num o.toNat ++ Dg.num q.toNat).length + n3.length > 9223372036854775807) := by rw [List.length_append]; omega
    have e1 := fun W => cat_run (Dg.num o.toNat) (Dg.num q.toNat) b1 W
    have e2 := fun W => cat_run (Dg.num o.toNat ++ Dg.num q.toNat) n3 b2 W
    rw [List.append_assoc] at e2
    clear b1 b2
    clear l1 l2 l3
    have N3 := Lib.hid hn3
    have HM := Lib.hid hmay
    have hT := Lib.hid (show (Dg.texts l).length ≤ 4294967296 by omega)
    have wo : IntKind.u64.wrap o = o := IntWalk.u64_in _ ⟨by omega, by omega⟩
    have wq : IntKind.u64.wrap q = q := IntWalk.u64_in _ ⟨by omega, by omega⟩
    clear hmay hm hg hv hbx hn3 m7 ht
    go_enter Try.func68, Try.ntmps68
    go_wp2_with fail
    refine HM.out.mono ?_
    rintro e w1 ⟨rfl, hb⟩
    have hb2 := grow_trans HG.out (hb.mono (by simp))
    have bx1 := HBX.out.kept (hb.mono (by simp))
    obtain ⟨c0, c1, c2, _⟩ := bx1.facts
    have BX1 := Lib.hid bx1
    clear bx1 hb
    have hk := Lib.hid (show ∀ a b : World, (fun w' : World => w'.cell? ⟨w.heap.size, 0, none⟩ = some (.int .i64 o) ∧ w'.cell? ⟨w.heap.size, 1, none⟩ = some (.int .i64 q) ∧ w'.cell? ⟨w.heap.size, 2, none⟩ = some (.slice av l.length cv) ∧ Below w.heap.size w w') a → Below a.heap.size a b → (fun w' : World => w'.cell? ⟨w.heap.size, 0, none⟩ = some (.int .i64 o) ∧ w'.cell? ⟨w.heap.size, 1, none⟩ = some (.int .i64 q) ∧ w'.cell? ⟨w.heap.size, 2, none⟩ = some (.slice av l.length cv) ∧ Below w.heap.size w w') b from fun a b ⟨k0, k1, k2, kb⟩ h => ⟨below_cell h k0, below_cell h k1, below_cell h k2, grow_trans kb h⟩)
    have hS : (fun w' : World => w'.cell? ⟨w.heap.size, 0, none⟩ = some (.int .i64 o) ∧ w'.cell? ⟨w.heap.size, 1, none⟩ = some (.int .i64 q) ∧ w'.cell? ⟨w.heap.size, 2, none⟩ = some (.slice av l.length cv) ∧ Below w.heap.size w w') w1 := ⟨c0, c1, c2, hb2⟩
    have hf := Lib.hid (show ∀ n : Int, n = o ∨ n = q → ∀ W, (fun w' : World => w'.cell? ⟨w.heap.size, 0, none⟩ = some (.int .i64 o) ∧ w'.cell? ⟨w.heap.size, 1, none⟩ = some (.int .i64 q) ∧ w'.cell? ⟨w.heap.size, 2, none⟩ = some (.slice av l.length cv) ∧ Below w.heap.size w w') W → Calls Try.prog 41 #[.int .u64 n] W fun e w' => e = .returned (tx (Dg.num n.toNat)) ∧ (fun w' : World => w'.cell? ⟨w.heap.size, 0, none⟩ = some (.int .i64 o) ∧ w'.cell? ⟨w.heap.size, 1, none⟩ = some (.int .i64 q) ∧ w'.cell? ⟨w.heap.size, 2, none⟩ = some (.slice av l.length cv) ∧ Below w.heap.size w w') w' from fun n hn W h => keepB (fun w' : World => w'.cell? ⟨w.heap.size, 0, none⟩ = some (.int .i64 o) ∧ w'.cell? ⟨w.heap.size, 1, none⟩ = some (.int .i64 q) ∧ w'.cell? ⟨w.heap.size, 2, none⟩ = some (.slice av l.length cv) ∧ Below w.heap.size w w') hk.out (rbnum_eq (by omega) (by omega) rfl W) h)
    have hr := Lib.hid (fun W (h : (fun w' : World => w'.cell? ⟨w.heap.size, 0, none⟩ = some (.int .i64 o) ∧ w'.cell? ⟨w.heap.size, 1, none⟩ = some (.int .i64 q) ∧ w'.cell? ⟨w.heap.size, 2, none⟩ = some (.slice av l.length cv) ∧ Below w.heap.size w w') W) => keepB (fun w' : World => w'.cell? ⟨w.heap.size, 0, none⟩ = some (.int .i64 o) ∧ w'.cell? ⟨w.heap.size, 1, none⟩ = some (.int .i64 q) ∧ w'.cell? ⟨w.heap.size, 2, none⟩ = some (.slice av l.length cv) ∧ Below w.heap.size w w') hk.out (rrow_eq N3.out W (HV.out.below h.2.2.2) (by omega) hT.out) h)
    clear m1 m2 m3 m4 m5 m6 N3 HV hT BX1 hb2 HBX HG HM hl
    go_wp2_with fail
    go_region_held3 (fun w' : World => w'.cell? ⟨w.heap.size, 0, none⟩ = some (.int .i64 o) ∧ w'.cell? ⟨w.heap.size, 1, none⟩ = some (.int .i64 q) ∧ w'.cell? ⟨w.heap.size, 2, none⟩ = some (.slice av l.length cv) ∧ Below w.heap.size w w')
      (first | assumption | exact hk.out _ _ hS (Below.drew (Below.refl _ _)) | exact hk.out _ _ (by assumption) ((Below.refl _ _).alloc (Nat.le_refl _) _))
      (first
        | (go_at_call 41; refine (hf.out _ (by first | exact .inl rfl | exact .inr rfl) _ (by assumption)).mono ?_; rintro e w1 ⟨rfl, kS⟩)
        | (go_at_call 69; refine (hr.out _ (by assumption)).mono ?_; rintro e w1 ⟨rfl, kS⟩))
    all_goals (go_wp2_with fail; go_ret2; exact ⟨by rw [HE.out]; rfl, (show (fun w' : World => w'.cell? ⟨w.heap.size, 0, none⟩ = some (.int .i64 o) ∧ w'.cell? ⟨w.heap.size, 1, none⟩ = some (.int .i64 q) ∧ w'.cell? ⟨w.heap.size, 2, none⟩ = some (.slice av l.length cv) ∧ Below w.heap.size w w') _ by assumption).2.2.2⟩)
theorem rbbytes_eq {b : Bt.Bat} {v : Value} {R : List UInt8 × Nat} (h : Bt.bytesR b = R) (w : World) (hv : TxAt w v b.2.2) (hl : b.2.2.length ≤ 140737488351232) :
    Calls Try.prog 68 #[batV b.1 b.2.1 v] w fun e w' => e = .returned (.tuple #[tx R.1, .int .i64 R.2]) ∧ Below w.heap.size w w' := by subst h; exact rbbytes b.1 b.2.1 v b.2.2 w hv hl
end Go.Proofs.Ytbkpekpajeaacaa
namespace Go.Proofs.Ytbkpekpajeaacaa
open Go.RowKit
set_option maxRecDepth 100000
attribute [local go_sem] ByteArray.mk_append_mk
theorem rvmay_eq {v : Vt.Vtx} {n : Int} {z : Bool} (h : Vt.may v n = z) (bv pv : Value) (w : World) (hb : BtsAt w bv v.2.2.1) (hp : TxAt w pv v.2.2.2.1) (lb : v.2.2.1.length ≤ 140737488351232) (lp : v.2.2.2.1.length ≤ 140737488351232) (n1 : -9223372036854775808 ≤ n) (n2 : n ≤ 9223372036854775807) :
    Calls Try.prog 67 #[vtxV v.1 v.2.1 bv pv v.2.2.2.2.1 v.2.2.2.2.2, .int .i64 n] w fun e w' => e = .returned (.bool z) ∧ Below w.heap.size w w' := by subst h; exact rvmay v bv pv n w hb hp lb lp n1 n2
theorem rvbytes_no (v : Vt.Vtx) (bv pv : Value) (n : Int) (w : World) (hb : BtsAt w bv v.2.2.1) (hp : TxAt w pv v.2.2.2.1) (mv : Vt.Mod v) (n1 : -9223372036854775808 ≤ n) (n2 : n ≤ 9223372036854775807) (hm : Vt.may v n = false) :
    Calls Try.prog 35 #[vtxV v.1 v.2.1 bv pv v.2.2.2.2.1 v.2.2.2.2.2, .int .i64 n] w fun e w' => e = .returned (.tuple #[tx [], .int .i64 1]) ∧ Below w.heap.size w w' := by
  have HM := Lib.hid hm
  have MV := Lib.hid mv
  obtain ⟨a, r, bs, ps, x, y⟩ := v
  simp only [] at hb hp
  have HG := Lib.hid (show Below w.heap.size w (w.alloc (.cells #[.int .i64 a, .int .i64 r, bv, pv, .int .i64 x, .int .i64 y] 27)) from (Below.refl _ _).alloc (Nat.le_refl _) _)
  have HB := Lib.hid hb
  have HP := Lib.hid hp
  obtain ⟨ab, cb, rfl⟩ := hb.len
  obtain ⟨ap, cp, rfl⟩ := hp.len
  clear hm hb hp mv
  go_enter Try.func35, Try.ntmps35
  go_wp2_with fail
  refine (rvmay_eq (v := (a, r, bs, ps, x, y)) HM.out _ _ _ (HB.out.below HG.out) (HP.out.below HG.out) MV.out.b MV.out.p n1 n2).mono ?_
  rintro e w1 ⟨rfl, g1⟩
  have G1 := Lib.hid (HG.out.trans (g1.mono (by simp)))
  clear g1
  go_wp2
  go_ret2
  exact ⟨rfl, G1.out⟩
set_option maxHeartbeats 8000000 in
theorem rvbytes_ok (v : Vt.Vtx) (bv pv : Value) (n : Int) (w : World) (hb : BtsAt w bv v.2.2.1) (hp : TxAt w pv v.2.2.2.1) (n1 : -9223372036854775808 ≤ n) (n2 : n ≤ 9223372036854775807) (hm : Vt.may v n = true) :
    Calls Try.prog 35 #[vtxV v.1 v.2.1 bv pv v.2.2.2.2.1 v.2.2.2.2.2, .int .i64 n] w fun e w' => e = .returned (.tuple #[tx (Vt.bytes v), .int .i64 0]) ∧ Below w.heap.size w w' := by
  obtain ⟨i0, hi, hz0, hz1, hz2⟩ := info_parts info_txs
  have hf := Vt.fits hm
  have hlen := Vt.bytes_len hm
  have HM := Lib.hid hm
  obtain ⟨f1, f2, a1, a2, r1, r2, b1, b2, p1, p2, x1, x2, y1, y2⟩ := hf
  obtain ⟨a, r, bs, ps, x, y⟩ := v
  simp only [] at hb hp a1 a2 r1 r2 b1 b2 p1 p2 x1 x2 y1 y2
  obtain ⟨na, hna⟩ : ∃ z, Dg.num a.toNat = z := ⟨_, rfl⟩
  obtain ⟨nr, hnr⟩ : ∃ z, Dg.num r.toNat = z := ⟨_, rfl⟩
  obtain ⟨nx, hnx⟩ : ∃ z, Dg.num x.toNat = z := ⟨_, rfl⟩
  obtain ⟨ny, hny⟩ : ∃ z, Dg.num y.toNat = z := ⟨_, rfl⟩
  obtain ⟨rb, hrb⟩ : ∃ z, Dg.row (bs.map Bt.bytes) = z := ⟨_, rfl⟩
  obtain ⟨rp, hrp⟩ : ∃ z, Dg.row ps = z := ⟨_, rfl⟩
  obtain ⟨s1, hs1⟩ : ∃ z, na ++ nr = z := ⟨_, rfl⟩
  obtain ⟨s2, hs2⟩ : ∃ z, s1 ++ rb = z := ⟨_, rfl⟩
  obtain ⟨s3, hs3⟩ : ∃ z, s2 ++ rp = z := ⟨_, rfl⟩
  obtain ⟨s4, hs4⟩ : ∃ z, s3 ++ nx = z := ⟨_, rfl⟩
  obtain ⟨s5, hs5⟩ : ∃ z, s4 ++ ny = z := ⟨_, rfl⟩
  have hall : Vt.bytes (a, r, bs, ps, x, y) = s5 := by
    simp only [Vt.bytes, hna, hnr, hnx, hny, hrb, hrp, ← hs5, ← hs4, ← hs3, ← hs2, ← hs1, List.append_assoc]
  rw [hall] at hlen ⊢
  have l5 : s5.length = s4.length + ny.length := by rw [← hs5, List.length_append]
  have l4 : s4.length = s3.length + nx.length := by rw [← hs4, List.length_append]
  have l3 : s3.length = s2.length + rp.length := by rw [← hs3, List.length_append]
  have l2 : s2.length = s1.length + rb.length := by rw [← hs2, List.length_append]
  have e1 := fun W => cat_is na nr s1 hs1 (by omega) W
  have e2 := fun W => cat_is s1 rb s2 hs2 (by omega) W
  have e3 := fun W => cat_is s2 rp s3 hs3 (by omega) W
  have e4 := fun W => cat_is s3 nx s4 hs4 (by omega) W
  have e5 := fun W => cat_is s4 ny s5 hs5 (by omega) W
  have tb : (Dg.texts (bs.map Bt.bytes)).length ≤ 4294967296 := by
    have : rb.length ≤ 4600 := by omega
    rw [← hrb, Dg.row, List.length_append] at this; omega
  have tp : (Dg.texts ps).length ≤ 4294967296 := by
    have : rp.length ≤ 4600 := by omega
    rw [← hrp, Dg.row, List.length_append] at this; omega
  have lbm : (bs.map Bt.bytes).length ≤ 4294967296 := by rw [List.length_map]; omega
  have lpm : ps.length ≤ 4294967296 := by omega
  have hnum : ∀ (z : Int) (l : List UInt8), 0 ≤ z → z ≤ 9223372036854775807 → Dg.num z.toNat = l → ∀ W, Calls Try.prog 41 #[.int .u64 z] W fun e w' => e = .returned (tx l) ∧ Below W.heap.size W w' := fun z l h0 h1 h W => rbnum_eq h0 h1 h W
  have NA := Lib.hid (hnum a na (by omega) (by omega) hna)
  have NR := Lib.hid (hnum r nr (by omega) (by omega) hnr)
  have NX := Lib.hid (hnum x nx (by omega) (by omega) hnx)
  have NY := Lib.hid (hnum y ny (by omega) (by omega) hny)
  have wa : IntKind.u64.wrap a = a := IntWalk.u64_in _ ⟨by omega, by omega⟩
  have wrr : IntKind.u64.wrap r = r := IntWalk.u64_in _ ⟨by omega, by omega⟩
  have wx : IntKind.u64.wrap x = x := IntWalk.u64_in _ ⟨by omega, by omega⟩
  have wy : IntKind.u64.wrap y = y := IntWalk.u64_in _ ⟨by omega, by omega⟩
  have VB := Lib.hid (VBox.new w a r bv pv x y)
  have HG := Lib.hid (show Below w.heap.size w (w.alloc (.cells #[.int .i64 a, .int .i64 r, bv, pv, .int .i64 x, .int .i64 y] 27)) from (Below.refl _ _).alloc (Nat.le_refl _) _)
  have HB := Lib.hid hb
  have HP := Lib.hid hp
  obtain ⟨ab, cb, rfl⟩ := hb.len
  obtain ⟨ap, cp, rfl⟩ := hp.len
  have B2 := Lib.hid b2
  have RB := Lib.hid (fun (u : Value) (W : World) (h : TxAt W u (bs.map Bt.bytes)) => rrow_eq hrb W h lbm tb)
  have RP := Lib.hid (fun (W : World) (h : TxAt W (.slice ap ps.length cp) ps) => rrow_eq hrp W h lpm tp)
  have LB2 := Lib.hid (show bs.length ≤ 140737488351232 by omega)
  have LP2 := Lib.hid (show ps.length ≤ 140737488351232 by omega)
  have hSM : ∀ j (hj : j < bs.length), ∃ u, (∃ b off cap, Value.slice ab bs.length cb = .slice (some ⟨b, off, none⟩) bs.length cap ∧ w.cell? ⟨b, off + j * 3, none⟩ = some (.int .i64 bs[j].1) ∧ w.cell? ⟨b, off + j * 3 + 1, none⟩ = some (.int .i64 bs[j].2.1) ∧ w.cell? ⟨b, off + j * 3 + 2, none⟩ = some u) ∧ TxAt w u bs[j].2.2 := by
    intro j hj
    rcases HB.out.cells with ⟨rfl, _⟩ | ⟨_, b, off, cap, e, hc⟩
    · simp at hj
    · obtain ⟨u, d0, d1, d2, hu⟩ := hc j hj
      exact ⟨u, ⟨b, off, cap, e, d0, d1, d2⟩, hu⟩
  have HSM := Lib.hid hSM
  obtain ⟨xs, hxs⟩ : ∃ xs : Nat → List Value, ∀ k, xs k = ((bs.take k).map Bt.bytes).map tx := ⟨_, fun _ => rfl⟩
  have hx0 : xs 0 = [] := by rw [hxs]; rfl
  have XS := Lib.hid hxs
  have X0 := Lib.hid hx0
  clear hm hb hp b2 hnum hna hnr hnx hny hrb hrp hs1 hs2 hs3 hs4 hs5 hall l5 l4 l3 l2 tb tp lbm lpm a1 a2 r1 r2 x1 x2 y1 y2 p1 p2 hlen f1 f2 hSM hxs hx0
  go_enter Try.func35, Try.ntmps35
  go_wp2_with fail
  refine (rvmay_eq (v := (a, r, bs, ps, x, y)) HM.out _ _ _ (HB.out.below HG.out) (HP.out.below HG.out) LB2.out LP2.out n1 n2).mono ?_
  rintro e w1 ⟨rfl, g1⟩
  have v1 := Lib.hid (VB.out.kept g1)
  have G1 := Lib.hid (HG.out.trans (g1.mono (by simp)))
  have WZ := Lib.hid v1.out.lt
  clear g1
  go_wp2_with fail
  go_loopw [7, 8] (fun v i wr => ∃ k : Nat, i = .int .i64 k ∧ k ≤ bs.length ∧ Below w.heap.size w wr ∧ VBox wr w.heap.size a r (.slice ab bs.length cb) (.slice ap ps.length cp) x y ∧ wr.ownsRow (w.heap.size + 1) 9 1 v k (xs k)) (fun _ i _ => bs.length - (intOf i).toNat)
  case atStart => exact ⟨0, rfl, by omega, G1.out, v1.out, by rw [X0.out]; exact ⟨rfl, .inl ⟨rfl, rfl⟩⟩⟩
  case round =>
    obtain ⟨k, rfl, hk, hbel, hvb, hown⟩ := hrel
    have GB := Lib.hid hbel
    have HO := Lib.hid hown
    have VV := Lib.hid hvb
    obtain ⟨c0, c1, c2, c3, c4, c5⟩ := hvb.cells
    clear hbel hown hvb
    by_cases hlt : k < bs.length
    · obtain ⟨u, ⟨b, off, cap, hbe, d0, d1, d2⟩, hu⟩ := HSM.out k hlt
      have e0 := below_cell GB.out d0
      have e1' := below_cell GB.out d1
      have e2' := below_cell GB.out d2
      have hmk := B2.out _ (List.getElem_mem hlt)
      have htk : xs k ++ [tx (Bt.bytes bs[k])] = xs (k + 1) := by
        rw [XS.out, XS.out, List.take_succ_eq_append_getElem hlt, List.map_append, List.map_append]; rfl
      have HU := Lib.hid (hu.below GB.out)
      have TK := Lib.hid htk
      obtain ⟨au, cu, rfl⟩ := hu.len
      injection hbe with hb1 _ hb2
      subst hb1
      subst hb2
      clear d0 d1 d2 hu htk
      generalize bs[k] = z at *
      obtain ⟨o, q, m⟩ := z
      simp only [] at e0 e1' e2' HU
      have hcl := rbbytes_eq (b := (o, q, m)) (v := .slice au m.length cu) (Bt.bytesR_ok hmk) wr HU.out (may_small hmk)
      have HL := Lib.hid hcl
      clear hcl hmk
      generalize Bt.bytes (o, q, m) = s at *
      go_wp2_with fail
      refine HL.out.mono ?_
      rintro e w2 ⟨rfl, g2⟩
      have V2 := Lib.hid (VV.out.kept g2)
      have G2 := Lib.hid (grow_trans GB.out g2)
      have HO1 := Lib.hid (own_below HO.out g2 (fun g hg => (HO.out.lt g hg).2))
      have Z2 := Lib.hid V2.out.lt
      clear g2 HO
      go_wp2_with (at_builtin; refine wpList_append_own _ rfl _ _ 23 rfl (w.heap.size + 1) 9 i0 (.string ⟨#[]⟩) 1 16 Try.underlying23 hi hz0 hz1 hz2 rfl (by decide) _ _ _ rfl (HO1.out.alloc _) ⟨w2.heap.size, 0, none⟩ 1 1 [tx s] rfl rfl ?c1 ?c2 ?c3 ?c4 ?c5 ?_)
      case c1 => exact new_cell _ _ rfl _ _
      case c2 => intro u hu; simp at hu; subst hu; rfl
      case c3 => unfold maxLen; omega
      case c4 => omega
      case c5 => have := Z2.out; simp; omega
      intro v' w3 hown3 hgrow _
      rw [TK.out] at hown3
      have HO3 := Lib.hid hown3
      have G3 := Lib.hid ((G2.out.alloc G2.out.size _).grown hgrow (by have := G2.out.size; simp; omega) (fun k hk => Nat.le_of_succ_le (HO1.out.lt k hk).1))
      have V3 := Lib.hid (show VBox w3 w.heap.size a r (.slice (some ⟨b, off, none⟩) bs.length cb) (.slice ap ps.length cp) x y from (hgrow.block _ (by have := Z2.out; simp; omega) (fun e => by have := (HO1.out.lt _ e.symm).1; omega)).trans (V2.out.alloc _))
      clear hown3 hgrow HO1
      go_wp2
      go_roundw
      case rel => exact ⟨k + 1, by go_num, by omega, G3.out, V3.out, HO3.out⟩
      case measure => simp [intOf]; omega
    · obtain rfl : k = bs.length := by omega
      have hT := HO.out
      rw [XS.out, List.take_length] at hT
      have HU := Lib.hid (TxAt.own hT)
      obtain ⟨au, cu, hue⟩ := HU.out.len
      rw [List.length_map] at hue
      subst hue
      clear hT HO hlt
      go_wp2_with fail
      have hS : (fun w' : World => w'.cell? ⟨w.heap.size, 0, none⟩ = some (.int .i64 a) ∧ w'.cell? ⟨w.heap.size, 1, none⟩ = some (.int .i64 r) ∧ w'.cell? ⟨w.heap.size, 3, none⟩ = some (.slice ap ps.length cp) ∧ Below wr.heap.size wr w') wr := ⟨c0, c1, c3, Below.refl _ _⟩
      have hk := Lib.hid (show ∀ a' b' : World, (fun w' : World => w'.cell? ⟨w.heap.size, 0, none⟩ = some (.int .i64 a) ∧ w'.cell? ⟨w.heap.size, 1, none⟩ = some (.int .i64 r) ∧ w'.cell? ⟨w.heap.size, 3, none⟩ = some (.slice ap ps.length cp) ∧ Below wr.heap.size wr w') a' → Below a'.heap.size a' b' → (fun w' : World => w'.cell? ⟨w.heap.size, 0, none⟩ = some (.int .i64 a) ∧ w'.cell? ⟨w.heap.size, 1, none⟩ = some (.int .i64 r) ∧ w'.cell? ⟨w.heap.size, 3, none⟩ = some (.slice ap ps.length cp) ∧ Below wr.heap.size wr w') b' from fun a' b' ⟨k0, k1, k3, kb⟩ h => ⟨below_cell h k0, below_cell h k1, below_cell h k3, grow_trans kb h⟩)
      have hfN := Lib.hid (show ∀ (z : Int) (R : List UInt8), (z = a ∧ R = na) ∨ (z = r ∧ R = nr) → ∀ W, (fun w' : World => w'.cell? ⟨w.heap.size, 0, none⟩ = some (.int .i64 a) ∧ w'.cell? ⟨w.heap.size, 1, none⟩ = some (.int .i64 r) ∧ w'.cell? ⟨w.heap.size, 3, none⟩ = some (.slice ap ps.length cp) ∧ Below wr.heap.size wr w') W → Calls Try.prog 41 #[.int .u64 z] W fun e w' => e = .returned (tx R) ∧ (fun w' : World => w'.cell? ⟨w.heap.size, 0, none⟩ = some (.int .i64 a) ∧ w'.cell? ⟨w.heap.size, 1, none⟩ = some (.int .i64 r) ∧ w'.cell? ⟨w.heap.size, 3, none⟩ = some (.slice ap ps.length cp) ∧ Below wr.heap.size wr w') w' from by
        rintro z R (⟨j1, j2⟩ | ⟨j1, j2⟩) W h <;> rw [j1, j2]
        · exact keepB (fun w' : World => w'.cell? ⟨w.heap.size, 0, none⟩ = some (.int .i64 a) ∧ w'.cell? ⟨w.heap.size, 1, none⟩ = some (.int .i64 r) ∧ w'.cell? ⟨w.heap.size, 3, none⟩ = some (.slice ap ps.length cp) ∧ Below wr.heap.size wr w') hk.out (NA.out W) h
        · exact keepB (fun w' : World => w'.cell? ⟨w.heap.size, 0, none⟩ = some (.int .i64 a) ∧ w'.cell? ⟨w.heap.size, 1, none⟩ = some (.int .i64 r) ∧ w'.cell? ⟨w.heap.size, 3, none⟩ = some (.slice ap ps.length cp) ∧ Below wr.heap.size wr w') hk.out (NR.out W) h)
      have hfR := Lib.hid (show ∀ (u : Value) (R : List UInt8), (u = .slice au bs.length cu ∧ R = rb) ∨ (u = .slice ap ps.length cp ∧ R = rp) → ∀ W, (fun w' : World => w'.cell? ⟨w.heap.size, 0, none⟩ = some (.int .i64 a) ∧ w'.cell? ⟨w.heap.size, 1, none⟩ = some (.int .i64 r) ∧ w'.cell? ⟨w.heap.size, 3, none⟩ = some (.slice ap ps.length cp) ∧ Below wr.heap.size wr w') W → Calls Try.prog 69 #[u] W fun e w' => e = .returned (tx R) ∧ (fun w' : World => w'.cell? ⟨w.heap.size, 0, none⟩ = some (.int .i64 a) ∧ w'.cell? ⟨w.heap.size, 1, none⟩ = some (.int .i64 r) ∧ w'.cell? ⟨w.heap.size, 3, none⟩ = some (.slice ap ps.length cp) ∧ Below wr.heap.size wr w') w' from by
        rintro u R (⟨rfl, rfl⟩ | ⟨rfl, rfl⟩) W h
        · exact keepB (fun w' : World => w'.cell? ⟨w.heap.size, 0, none⟩ = some (.int .i64 a) ∧ w'.cell? ⟨w.heap.size, 1, none⟩ = some (.int .i64 r) ∧ w'.cell? ⟨w.heap.size, 3, none⟩ = some (.slice ap ps.length cp) ∧ Below wr.heap.size wr w') hk.out (RB.out _ W (HU.out.below h.2.2.2)) h
        · exact keepB (fun w' : World => w'.cell? ⟨w.heap.size, 0, none⟩ = some (.int .i64 a) ∧ w'.cell? ⟨w.heap.size, 1, none⟩ = some (.int .i64 r) ∧ w'.cell? ⟨w.heap.size, 3, none⟩ = some (.slice ap ps.length cp) ∧ Below wr.heap.size wr w') hk.out (RP.out W (HP.out.below (grow_trans GB.out h.2.2.2))) h)
      have hS2 := Lib.hid (show ∀ W, (fun w' : World => w'.cell? ⟨w.heap.size, 0, none⟩ = some (.int .i64 a) ∧ w'.cell? ⟨w.heap.size, 1, none⟩ = some (.int .i64 r) ∧ w'.cell? ⟨w.heap.size, 3, none⟩ = some (.slice ap ps.length cp) ∧ Below wr.heap.size wr w') W → (fun w' : World => w'.cell? ⟨w.heap.size, 4, none⟩ = some (.int .i64 x) ∧ w'.cell? ⟨w.heap.size, 5, none⟩ = some (.int .i64 y) ∧ Below w.heap.size w w') W from fun W h => by
        obtain ⟨_, _, _, _, m4, m5⟩ := (VV.out.kept h.2.2.2).cells
        exact ⟨m4, m5, grow_trans GB.out h.2.2.2⟩)
      have hk2 := Lib.hid (show ∀ a' b' : World, (fun w' : World => w'.cell? ⟨w.heap.size, 4, none⟩ = some (.int .i64 x) ∧ w'.cell? ⟨w.heap.size, 5, none⟩ = some (.int .i64 y) ∧ Below w.heap.size w w') a' → Below a'.heap.size a' b' → (fun w' : World => w'.cell? ⟨w.heap.size, 4, none⟩ = some (.int .i64 x) ∧ w'.cell? ⟨w.heap.size, 5, none⟩ = some (.int .i64 y) ∧ Below w.heap.size w w') b' from fun a' b' ⟨k0, k1, kb⟩ h => ⟨below_cell h k0, below_cell h k1, grow_trans kb h⟩)
      have hfM := Lib.hid (show ∀ (z : Int) (R : List UInt8), (z = x ∧ R = nx) ∨ (z = y ∧ R = ny) → ∀ W, (fun w' : World => w'.cell? ⟨w.heap.size, 4, none⟩ = some (.int .i64 x) ∧ w'.cell? ⟨w.heap.size, 5, none⟩ = some (.int .i64 y) ∧ Below w.heap.size w w') W → Calls Try.prog 41 #[.int .u64 z] W fun e w' => e = .returned (tx R) ∧ (fun w' : World => w'.cell? ⟨w.heap.size, 4, none⟩ = some (.int .i64 x) ∧ w'.cell? ⟨w.heap.size, 5, none⟩ = some (.int .i64 y) ∧ Below w.heap.size w w') w' from by
        rintro z R (⟨j1, j2⟩ | ⟨j1, j2⟩) W h <;> rw [j1, j2]
        · exact keepB (fun w' : World => w'.cell? ⟨w.heap.size, 4, none⟩ = some (.int .i64 x) ∧ w'.cell? ⟨w.heap.size, 5, none⟩ = some (.int .i64 y) ∧ Below w.heap.size w w') hk2.out (NX.out W) h
        · exact keepB (fun w' : World => w'.cell? ⟨w.heap.size, 4, none⟩ = some (.int .i64 x) ∧ w'.cell? ⟨w.heap.size, 5, none⟩ = some (.int .i64 y) ∧ Below w.heap.size w w') hk2.out (NY.out W) h)
      clear c0 c1 c2 c3 c4 c5 NX NY NA NR RB RP HM VB HG HB B2 HSM XS X0 v1 WZ
      go_region_held3 (fun w' : World => w'.cell? ⟨w.heap.size, 0, none⟩ = some (.int .i64 a) ∧ w'.cell? ⟨w.heap.size, 1, none⟩ = some (.int .i64 r) ∧ w'.cell? ⟨w.heap.size, 3, none⟩ = some (.slice ap ps.length cp) ∧ Below wr.heap.size wr w')
        (first | assumption | exact hk.out _ _ hS (Below.drew (Below.refl _ _)) | exact hk.out _ _ (by assumption) ((Below.refl _ _).alloc (Nat.le_refl _) _))
        (first
          | (go_at_call 41; refine (hfN.out _ _ (by first | exact .inl ⟨rfl, rfl⟩ | exact .inr ⟨rfl, rfl⟩) _ (by assumption)).mono ?_; rintro e w1 ⟨rfl, kS⟩)
          | (go_at_call 69; refine (hfR.out _ _ (by first | exact .inl ⟨rfl, rfl⟩ | exact .inr ⟨rfl, rfl⟩) _ (by assumption)).mono ?_; rintro e w1 ⟨rfl, kS⟩))
      all_goals (go_wp2_with fail)
      all_goals
        go_region_held3 (fun w' : World => w'.cell? ⟨w.heap.size, 4, none⟩ = some (.int .i64 x) ∧ w'.cell? ⟨w.heap.size, 5, none⟩ = some (.int .i64 y) ∧ Below w.heap.size w w')
          (first | assumption | exact hk2.out _ _ (hS2.out _ (by assumption)) (Below.drew (Below.refl _ _)) | exact hk2.out _ _ (by assumption) ((Below.refl _ _).alloc (Nat.le_refl _) _))
          ((go_at_call 41; refine (hfM.out _ _ (by first | exact .inl ⟨rfl, rfl⟩ | exact .inr ⟨rfl, rfl⟩) _ (by assumption)).mono ?_; rintro e w1 ⟨rfl, kS⟩))
      all_goals (go_wp2_with fail; go_ret2; exact ⟨rfl, (show (fun w' : World => w'.cell? ⟨w.heap.size, 4, none⟩ = some (.int .i64 x) ∧ w'.cell? ⟨w.heap.size, 5, none⟩ = some (.int .i64 y) ∧ Below w.heap.size w w') _ by assumption).2.2⟩)
theorem rvbytes_eq {v : Vt.Vtx} {n : Int} {R : List UInt8 × Nat} (h : Vt.bytesR v n = R) (bv pv : Value) (w : World) (hb : BtsAt w bv v.2.2.1) (hp : TxAt w pv v.2.2.2.1) (mv : Vt.Mod v) (n1 : -9223372036854775808 ≤ n) (n2 : n ≤ 9223372036854775807) :
    Calls Try.prog 35 #[vtxV v.1 v.2.1 bv pv v.2.2.2.2.1 v.2.2.2.2.2, .int .i64 n] w fun e w' => e = .returned (.tuple #[tx R.1, .int .i64 R.2]) ∧ Below w.heap.size w w' := by
  subst h
  cases hm : Vt.may v n with
  | true => rw [Vt.bytesR_ok hm]; exact rvbytes_ok v bv pv n w hb hp n1 n2 hm
  | false => rw [Vt.bytesR_no hm]; exact rvbytes_no v bv pv n w hb hp mv n1 n2 hm
end Go.Proofs.Ytbkpekpajeaacaa
