/- A block's digest, in both packages. (Written by gen-cutdig.py.) -/
import Derived.Test.YtldhkgelifmipaaDoorCutBlk
import Derived.Test.YtldhkgelifmipaaDoorDigRow
import Derived.Test.YtldhkgelifmipaaDoorDigRRow
import Derived.Test.YtldhkgelifmipaaDoorShaSum
import Derived.Test.YtldhkgelifmipaaDoorShaRSum
import Derived.Test.YtldhkgelifmipaaDoorKeep
import Derived.Deep.DeepCutAuto
namespace Ct
/-- A block's digest. -/
def dig (b : Blk) : Tx := Sh.sum (107 :: (Dg.num b.1.toNat ++ (Dg.text b.2.1 ++ Dg.row b.2.2)))
end Ct
namespace Go.Proofs.YtldhkgelifmipaaDoor
open Go.RowKit
attribute [local go_sem] ByteArray.mk_append_mk
/-- No part of a block is so long that it can't be spelt. -/
def CutFit (b : Ct.Blk) : Prop := b.2.1.length ≤ 1073741824 ∧ b.2.2.length ≤ 1073741824 ∧ (Dg.texts b.2.2).length ≤ 4294967296
theorem crow_eq {v : Value} {ls : List (List UInt8)} {r : List UInt8} (h : Dg.row ls = r) (w : World) (hv : TxAt w v ls) (hl : ls.length ≤ 4294967296) (ht : (Dg.texts ls).length ≤ 4294967296) :
    Calls Tryd.prog 29 #[v] w fun e w' => e = .returned (tx r) ∧ Below w.heap.size w w' := by subst h; exact row_any v ls w hv hl ht
theorem crrow_eq {v : Value} {ls : List (List UInt8)} {r : List UInt8} (h : Dg.row ls = r) (w : World) (hv : TxAt w v ls) (hl : ls.length ≤ 4294967296) (ht : (Dg.texts ls).length ≤ 4294967296) :
    Calls Tryd.prog 33 #[v] w fun e w' => e = .returned (tx r) ∧ Below w.heap.size w w' := by subst h; exact rrow_any v ls w hv hl ht
theorem csum_eq {s r : List UInt8} (h : Sh.sum s = r) (hs : s.length ≤ 140737488351232) (w : World) (hw : GW w) :
    Calls Tryd.prog 26 #[tx s] w fun e w' => e = .returned (tx r) ∧ Below w.heap.size w w' := by subst h; exact psum s hs w hw
theorem crsum_eq {s r : List UInt8} (h : Sh.sum s = r) (hs : s.length ≤ 140737488351232) (w : World) :
    Calls Tryd.prog 30 #[tx s] w fun e w' => e = .returned (tx r) ∧ Below w.heap.size w w' := by subst h; exact rsum s hs w

set_option maxHeartbeats 4000000 in
set_option maxRecDepth 100000 in
theorem pcdig (b : Ct.Blk) (u : Value) (w : World) (hu : TxAt w u b.2.2) (hf : CutFit b) (h63 : b.1 ≤ 9223372036854775807) (hw : GW w) :
    Calls Tryd.prog 17 #[blkV b u] w fun e w' => e = .returned (tx (Ct.dig b)) ∧ Below w.heap.size w w' := by
  obtain ⟨n, p, ls⟩ := b
  obtain ⟨f1, f2, f3⟩ := hf
  simp only at f1 f2 f3 hu h63
  obtain ⟨K, hK⟩ : ∃ K : Nat, n.toNat = K := ⟨_, rfl⟩
  have hK63 : K ≤ 9223372036854775807 := by omega
  obtain ⟨nb, hnb⟩ : ∃ x, Dg.num K = x := ⟨_, rfl⟩
  obtain ⟨tb, htb⟩ : ∃ x, Dg.text p = x := ⟨_, rfl⟩
  obtain ⟨rb, hrb⟩ : ∃ x, Dg.row ls = x := ⟨_, rfl⟩
  have l1 : nb.length ≤ 9 := by rw [← hnb]; exact Dg.num_len _
  have l2 : tb.length ≤ p.length + 9 := by rw [← htb, Dg.text, List.length_append]; have := Dg.num_len p.length; omega
  have l3 : rb.length ≤ 4294967296 + 9 := by rw [← hrb, Dg.row, List.length_append]; have := Dg.num_len ls.length; omega
  obtain ⟨s1, hs1⟩ : ∃ x, 107 :: nb = x := ⟨_, rfl⟩
  obtain ⟨s2, hs2⟩ : ∃ x, s1 ++ tb = x := ⟨_, rfl⟩
  obtain ⟨s3, hs3⟩ : ∃ x, s2 ++ rb = x := ⟨_, rfl⟩
  have l4 : s1.length ≤ 10 := by rw [← hs1]; simp; omega
  have l5 : s2.length ≤ s1.length + tb.length := by rw [← hs2, List.length_append]; omega
  have l6 : s3.length ≤ s2.length + rb.length := by rw [← hs3, List.length_append]; omega
  obtain ⟨d, hd⟩ : ∃ x, Sh.sum s3 = x := ⟨_, rfl⟩
  have hdig : Ct.dig (n, p, ls) = d := by
    rw [← hd, ← hs3, ← hs2, ← hs1, ← hnb, ← htb, ← hrb, ← hK, Ct.dig]
    simp
  rw [hdig]
  have e1 : ∀ W, (Op.stringOp .add (⟨[107].toArray⟩ : ByteArray) ⟨nb.toArray⟩).run Tryd.prog W = .ok (tx s1) W := fun W => by rw [cat_runS [107] nb (by simp; omega) W, ← hs1]; rfl
  have e2 : ∀ W, (Op.stringOp .add (⟨s1.toArray⟩ : ByteArray) ⟨tb.toArray⟩).run Tryd.prog W = .ok (tx s2) W := fun W => by rw [cat_runS s1 tb (by omega) W, hs2]
  have e3 : ∀ W, (Op.stringOp .add (⟨s2.toArray⟩ : ByteArray) ⟨rb.toArray⟩).run Tryd.prog W = .ok (tx s3) W := fun W => by rw [cat_runS s2 rb (by omega) W, hs3]
  have HNB := Lib.hid hnb
  have HTB := Lib.hid htb
  have HRB := Lib.hid hrb
  have HD := Lib.hid hd
  have HL := Lib.hid (show s3.length ≤ 140737488351232 by omega)
  obtain ⟨C, hC⟩ : ∃ C, w.heap.size = C := ⟨_, rfl⟩
  obtain ⟨w0, hw0⟩ : ∃ w0, w.alloc (.cells #[iv n, tx p, u] 25) = w0 := ⟨_, rfl⟩
  have GR := Lib.hid (show Below w.heap.size w w0 by rw [← hw0]; exact (Below.refl _ _).alloc (Nat.le_refl _) _)
  have r0 : w0.cell? ⟨C, 0, none⟩ = some (.int .i64 n) := by rw [← hw0, ← hC]; simp [iv]
  have r1 : w0.cell? ⟨C, 1, none⟩ = some (tx p) := by rw [← hw0, ← hC]; simp
  have r2 : w0.cell? ⟨C, 2, none⟩ = some u := by rw [← hw0, ← hC]; simp
  have HU := Lib.hid (hu.below GR.out)
  have HW := Lib.hid (hw.below GR.out)
  have hS : (fun w' : World => w'.cell? ⟨C, 0, none⟩ = some (.int .i64 n) ∧ w'.cell? ⟨C, 1, none⟩ = some (tx p) ∧ w'.cell? ⟨C, 2, none⟩ = some u ∧ Below w0.heap.size w0 w') w0 := ⟨r0, r1, r2, Below.refl _ _⟩
  have hk := Lib.hid (show ∀ A1 A2 : World, (fun w' : World => w'.cell? ⟨C, 0, none⟩ = some (.int .i64 n) ∧ w'.cell? ⟨C, 1, none⟩ = some (tx p) ∧ w'.cell? ⟨C, 2, none⟩ = some u ∧ Below w0.heap.size w0 w') A1 → Below A1.heap.size A1 A2 → (fun w' : World => w'.cell? ⟨C, 0, none⟩ = some (.int .i64 n) ∧ w'.cell? ⟨C, 1, none⟩ = some (tx p) ∧ w'.cell? ⟨C, 2, none⟩ = some u ∧ Below w0.heap.size w0 w') A2 from fun A1 A2 ⟨k0, k1, k2, kb⟩ h => ⟨below_cell h k0, below_cell h k1, below_cell h k2, grow_trans kb h⟩)
  have HK := Lib.hid hK
  clear hu hw hnb htb hrb hs1 hs2 hs3 hd hdig l1 l2 l3 l4 l5 l6 hK
  by_cases hn : 0 < n
  · have t1 : decide ((0 : Int) < n) = true := decide_eq_true hn
    have t2 : max n 0 = n := by omega
    have t3 : IntKind.u64.wrap n = (K : Int) := by rw [IntWalk.u64_in _ ⟨by omega, by omega⟩]; have := HK.out; omega
    clear hn
    go_enter Tryd.func17, Tryd.ntmps17
    go_upto_region 2 with fail
    refine wp_region_held_drew (S := (fun w' : World => w'.cell? ⟨C, 0, none⟩ = some (.int .i64 n) ∧ w'.cell? ⟨C, 1, none⟩ = some (tx p) ∧ w'.cell? ⟨C, 2, none⟩ = some u ∧ Below w0.heap.size w0 w')) (by kernel_rfl) ?_ (fun hHeld => ?_)
    · exact hk.out _ _ hS (Below.drew (Below.refl _ _))
    refine takeW (i := 0) (v := ?_) rfl (by kernel_rfl) (by kernel_rfl) (by kernel_rfl) (fun _ _ _ h => h) (by rfl) ?_ (by assumption) ?_
    rotate_left
    focus (intro w hSw; (try dsimp only at hSw); go_simp; try (with_reducible rfl))
    simp only [Act.put, List.setIfInBounds_toArray, List.set_cons_zero, List.set_cons_succ]
    refine takeW (i := 3) (v := ?_) rfl (by kernel_rfl) (by kernel_rfl) (by kernel_rfl) (fun _ _ _ h => h) (by rfl) ?_ (by assumption) ?_
    rotate_left
    focus (intro w hSw; (try dsimp only at hSw); go_simp; try (with_reducible rfl))
    simp only [Act.put, List.setIfInBounds_toArray, List.set_cons_zero, List.set_cons_succ]
    refine takeW (i := 4) (v := ?_) rfl (by kernel_rfl) (by kernel_rfl) (by kernel_rfl) (fun _ _ _ h => h) (by rfl) ?_ (by assumption) ?_
    rotate_left
    focus (intro w hSw; (try dsimp only at hSw); go_simp; try (with_reducible rfl))
    simp only [Act.put, List.setIfInBounds_toArray, List.set_cons_zero, List.set_cons_succ]
    refine takeW (i := 7) (v := ?_) rfl (by kernel_rfl) (by kernel_rfl) (by kernel_rfl) (fun _ _ _ h => h) (by rfl) ?_ (by assumption) ?_
    rotate_left
    focus (intro w hSw; (try dsimp only at hSw); go_simp; try (with_reducible rfl))
    simp only [Act.put, List.setIfInBounds_toArray, List.set_cons_zero, List.set_cons_succ]
    refine takeW (i := 8) (v := ?_) rfl (by kernel_rfl) (by kernel_rfl) (by kernel_rfl) (fun _ _ _ h => h) (by rfl) ?_ (by assumption) ?_
    rotate_left
    focus (intro w hSw; (try dsimp only at hSw); go_simp; try (with_reducible rfl))
    simp only [Act.put, List.setIfInBounds_toArray, List.set_cons_zero, List.set_cons_succ]
    refine readyOne (i := 1) (by kernel_rfl) rfl (fun K hK => ?_)
    go_simp
    refine (num_eq HNB.out (by omega) _).mono ?_
    rintro e w9 ⟨rfl, h9⟩
    have kS : (fun w' : World => w'.cell? ⟨C, 0, none⟩ = some (.int .i64 n) ∧ w'.cell? ⟨C, 1, none⟩ = some (tx p) ∧ w'.cell? ⟨C, 2, none⟩ = some u ∧ Below w0.heap.size w0 w') w9 := hk.out _ _ (by assumption) h9
    go_wp2_with fail
    refine hK.out _ _ kS (fun hHeld => ?_)
    clear hK K
    refine takeW (i := 2) (v := ?_) rfl (by kernel_rfl) (by kernel_rfl) (by kernel_rfl) (fun _ _ _ h => h) (by rfl) ?_ (by assumption) ?_
    rotate_left
    focus (intro w hSw; (try dsimp only at hSw); go_simp; try (with_reducible rfl))
    simp only [Act.put, List.setIfInBounds_toArray, List.set_cons_zero, List.set_cons_succ]
    refine readyOne (i := 5) (by kernel_rfl) rfl (fun K hK => ?_)
    go_simp
    refine (text_eq HTB.out (by omega) _).mono ?_
    rintro e w9 ⟨rfl, h9⟩
    have kS : (fun w' : World => w'.cell? ⟨C, 0, none⟩ = some (.int .i64 n) ∧ w'.cell? ⟨C, 1, none⟩ = some (tx p) ∧ w'.cell? ⟨C, 2, none⟩ = some u ∧ Below w0.heap.size w0 w') w9 := hk.out _ _ (by assumption) h9
    go_wp2_with fail
    refine hK.out _ _ kS (fun hHeld => ?_)
    clear hK K
    refine takeW (i := 6) (v := ?_) rfl (by kernel_rfl) (by kernel_rfl) (by kernel_rfl) (fun _ _ _ h => h) (by rfl) ?_ (by assumption) ?_
    rotate_left
    focus (intro w hSw; (try dsimp only at hSw); go_simp; try (with_reducible rfl))
    simp only [Act.put, List.setIfInBounds_toArray, List.set_cons_zero, List.set_cons_succ]
    refine readyOne (i := 9) (by kernel_rfl) rfl (fun K hK => ?_)
    go_simp
    refine (crow_eq HRB.out _ (HU.out.below (show (fun w' : World => w'.cell? ⟨C, 0, none⟩ = some (.int .i64 n) ∧ w'.cell? ⟨C, 1, none⟩ = some (tx p) ∧ w'.cell? ⟨C, 2, none⟩ = some u ∧ Below w0.heap.size w0 w') _ by assumption).2.2.2) (by omega) (by omega)).mono ?_
    rintro e w9 ⟨rfl, h9⟩
    have kS : (fun w' : World => w'.cell? ⟨C, 0, none⟩ = some (.int .i64 n) ∧ w'.cell? ⟨C, 1, none⟩ = some (tx p) ∧ w'.cell? ⟨C, 2, none⟩ = some u ∧ Below w0.heap.size w0 w') w9 := hk.out _ _ (by assumption) h9
    go_wp2_with fail
    refine hK.out _ _ kS (fun hHeld => ?_)
    clear hK K
    refine takeW (i := 10) (v := ?_) rfl (by kernel_rfl) (by kernel_rfl) (by kernel_rfl) (fun _ _ _ h => h) (by rfl) ?_ (by assumption) ?_
    rotate_left
    focus (intro w hSw; (try dsimp only at hSw); go_simp; try (with_reducible rfl))
    simp only [Act.put, List.setIfInBounds_toArray, List.set_cons_zero, List.set_cons_succ]
    refine readyOne (i := 11) (by kernel_rfl) rfl (fun K hK => ?_)
    go_simp
    refine (csum_eq HD.out HL.out _ (HW.out.below (show (fun w' : World => w'.cell? ⟨C, 0, none⟩ = some (.int .i64 n) ∧ w'.cell? ⟨C, 1, none⟩ = some (tx p) ∧ w'.cell? ⟨C, 2, none⟩ = some u ∧ Below w0.heap.size w0 w') _ by assumption).2.2.2)).mono ?_
    rintro e w9 ⟨rfl, h9⟩
    have kS : (fun w' : World => w'.cell? ⟨C, 0, none⟩ = some (.int .i64 n) ∧ w'.cell? ⟨C, 1, none⟩ = some (tx p) ∧ w'.cell? ⟨C, 2, none⟩ = some u ∧ Below w0.heap.size w0 w') w9 := hk.out _ _ (by assumption) h9
    go_wp2_with fail
    refine hK.out _ _ kS (fun hHeld => ?_)
    clear hK K
    refine takeW (i := 12) (v := ?_) rfl (by kernel_rfl) (by kernel_rfl) (by kernel_rfl) (fun _ _ _ h => h) (by rfl) ?_ (by assumption) ?_
    rotate_left
    focus (intro w hSw; (try dsimp only at hSw); go_simp; try (with_reducible rfl))
    simp only [Act.put, List.setIfInBounds_toArray, List.set_cons_zero, List.set_cons_succ]
    refine wpAnyH_done (by kernel_rfl) ?_ _
    have kZ := (show (fun w' : World => w'.cell? ⟨C, 0, none⟩ = some (.int .i64 n) ∧ w'.cell? ⟨C, 1, none⟩ = some (tx p) ∧ w'.cell? ⟨C, 2, none⟩ = some u ∧ Below w0.heap.size w0 w') _ by assumption)
    have HZ := Lib.hid (GR.out.trans (kZ.2.2.2.mono GR.out.size))
    clear kZ hS
    go_wp2
    go_ret
    exact ⟨rfl, HZ.out⟩
  · obtain rfl : K = 0 := by have := HK.out; omega
    have t1 : decide ((0 : Int) < n) = false := decide_eq_false hn
    have t2 : max n 0 = 0 := by omega
    clear hn
    go_enter Tryd.func17, Tryd.ntmps17
    go_upto_region 2 with fail
    refine wp_region_held_drew (S := (fun w' : World => w'.cell? ⟨C, 0, none⟩ = some (.int .i64 n) ∧ w'.cell? ⟨C, 1, none⟩ = some (tx p) ∧ w'.cell? ⟨C, 2, none⟩ = some u ∧ Below w0.heap.size w0 w')) (by kernel_rfl) ?_ (fun hHeld => ?_)
    · exact hk.out _ _ hS (Below.drew (Below.refl _ _))
    refine takeW (i := 0) (v := ?_) rfl (by kernel_rfl) (by kernel_rfl) (by kernel_rfl) (fun _ _ _ h => h) (by rfl) ?_ (by assumption) ?_
    rotate_left
    focus (intro w hSw; (try dsimp only at hSw); go_simp; try (with_reducible rfl))
    simp only [Act.put, List.setIfInBounds_toArray, List.set_cons_zero, List.set_cons_succ]
    refine takeW (i := 3) (v := ?_) rfl (by kernel_rfl) (by kernel_rfl) (by kernel_rfl) (fun _ _ _ h => h) (by rfl) ?_ (by assumption) ?_
    rotate_left
    focus (intro w hSw; (try dsimp only at hSw); go_simp; try (with_reducible rfl))
    simp only [Act.put, List.setIfInBounds_toArray, List.set_cons_zero, List.set_cons_succ]
    refine takeW (i := 4) (v := ?_) rfl (by kernel_rfl) (by kernel_rfl) (by kernel_rfl) (fun _ _ _ h => h) (by rfl) ?_ (by assumption) ?_
    rotate_left
    focus (intro w hSw; (try dsimp only at hSw); go_simp; try (with_reducible rfl))
    simp only [Act.put, List.setIfInBounds_toArray, List.set_cons_zero, List.set_cons_succ]
    refine takeW (i := 7) (v := ?_) rfl (by kernel_rfl) (by kernel_rfl) (by kernel_rfl) (fun _ _ _ h => h) (by rfl) ?_ (by assumption) ?_
    rotate_left
    focus (intro w hSw; (try dsimp only at hSw); go_simp; try (with_reducible rfl))
    simp only [Act.put, List.setIfInBounds_toArray, List.set_cons_zero, List.set_cons_succ]
    refine takeW (i := 8) (v := ?_) rfl (by kernel_rfl) (by kernel_rfl) (by kernel_rfl) (fun _ _ _ h => h) (by rfl) ?_ (by assumption) ?_
    rotate_left
    focus (intro w hSw; (try dsimp only at hSw); go_simp; try (with_reducible rfl))
    simp only [Act.put, List.setIfInBounds_toArray, List.set_cons_zero, List.set_cons_succ]
    refine readyOne (i := 1) (by kernel_rfl) rfl (fun K hK => ?_)
    go_simp
    refine (num_eq HNB.out (by omega) _).mono ?_
    rintro e w9 ⟨rfl, h9⟩
    have kS : (fun w' : World => w'.cell? ⟨C, 0, none⟩ = some (.int .i64 n) ∧ w'.cell? ⟨C, 1, none⟩ = some (tx p) ∧ w'.cell? ⟨C, 2, none⟩ = some u ∧ Below w0.heap.size w0 w') w9 := hk.out _ _ (by assumption) h9
    go_wp2_with fail
    refine hK.out _ _ kS (fun hHeld => ?_)
    clear hK K
    refine takeW (i := 2) (v := ?_) rfl (by kernel_rfl) (by kernel_rfl) (by kernel_rfl) (fun _ _ _ h => h) (by rfl) ?_ (by assumption) ?_
    rotate_left
    focus (intro w hSw; (try dsimp only at hSw); go_simp; try (with_reducible rfl))
    simp only [Act.put, List.setIfInBounds_toArray, List.set_cons_zero, List.set_cons_succ]
    refine readyOne (i := 5) (by kernel_rfl) rfl (fun K hK => ?_)
    go_simp
    refine (text_eq HTB.out (by omega) _).mono ?_
    rintro e w9 ⟨rfl, h9⟩
    have kS : (fun w' : World => w'.cell? ⟨C, 0, none⟩ = some (.int .i64 n) ∧ w'.cell? ⟨C, 1, none⟩ = some (tx p) ∧ w'.cell? ⟨C, 2, none⟩ = some u ∧ Below w0.heap.size w0 w') w9 := hk.out _ _ (by assumption) h9
    go_wp2_with fail
    refine hK.out _ _ kS (fun hHeld => ?_)
    clear hK K
    refine takeW (i := 6) (v := ?_) rfl (by kernel_rfl) (by kernel_rfl) (by kernel_rfl) (fun _ _ _ h => h) (by rfl) ?_ (by assumption) ?_
    rotate_left
    focus (intro w hSw; (try dsimp only at hSw); go_simp; try (with_reducible rfl))
    simp only [Act.put, List.setIfInBounds_toArray, List.set_cons_zero, List.set_cons_succ]
    refine readyOne (i := 9) (by kernel_rfl) rfl (fun K hK => ?_)
    go_simp
    refine (crow_eq HRB.out _ (HU.out.below (show (fun w' : World => w'.cell? ⟨C, 0, none⟩ = some (.int .i64 n) ∧ w'.cell? ⟨C, 1, none⟩ = some (tx p) ∧ w'.cell? ⟨C, 2, none⟩ = some u ∧ Below w0.heap.size w0 w') _ by assumption).2.2.2) (by omega) (by omega)).mono ?_
    rintro e w9 ⟨rfl, h9⟩
    have kS : (fun w' : World => w'.cell? ⟨C, 0, none⟩ = some (.int .i64 n) ∧ w'.cell? ⟨C, 1, none⟩ = some (tx p) ∧ w'.cell? ⟨C, 2, none⟩ = some u ∧ Below w0.heap.size w0 w') w9 := hk.out _ _ (by assumption) h9
    go_wp2_with fail
    refine hK.out _ _ kS (fun hHeld => ?_)
    clear hK K
    refine takeW (i := 10) (v := ?_) rfl (by kernel_rfl) (by kernel_rfl) (by kernel_rfl) (fun _ _ _ h => h) (by rfl) ?_ (by assumption) ?_
    rotate_left
    focus (intro w hSw; (try dsimp only at hSw); go_simp; try (with_reducible rfl))
    simp only [Act.put, List.setIfInBounds_toArray, List.set_cons_zero, List.set_cons_succ]
    refine readyOne (i := 11) (by kernel_rfl) rfl (fun K hK => ?_)
    go_simp
    refine (csum_eq HD.out HL.out _ (HW.out.below (show (fun w' : World => w'.cell? ⟨C, 0, none⟩ = some (.int .i64 n) ∧ w'.cell? ⟨C, 1, none⟩ = some (tx p) ∧ w'.cell? ⟨C, 2, none⟩ = some u ∧ Below w0.heap.size w0 w') _ by assumption).2.2.2)).mono ?_
    rintro e w9 ⟨rfl, h9⟩
    have kS : (fun w' : World => w'.cell? ⟨C, 0, none⟩ = some (.int .i64 n) ∧ w'.cell? ⟨C, 1, none⟩ = some (tx p) ∧ w'.cell? ⟨C, 2, none⟩ = some u ∧ Below w0.heap.size w0 w') w9 := hk.out _ _ (by assumption) h9
    go_wp2_with fail
    refine hK.out _ _ kS (fun hHeld => ?_)
    clear hK K
    refine takeW (i := 12) (v := ?_) rfl (by kernel_rfl) (by kernel_rfl) (by kernel_rfl) (fun _ _ _ h => h) (by rfl) ?_ (by assumption) ?_
    rotate_left
    focus (intro w hSw; (try dsimp only at hSw); go_simp; try (with_reducible rfl))
    simp only [Act.put, List.setIfInBounds_toArray, List.set_cons_zero, List.set_cons_succ]
    refine wpAnyH_done (by kernel_rfl) ?_ _
    have kZ := (show (fun w' : World => w'.cell? ⟨C, 0, none⟩ = some (.int .i64 n) ∧ w'.cell? ⟨C, 1, none⟩ = some (tx p) ∧ w'.cell? ⟨C, 2, none⟩ = some u ∧ Below w0.heap.size w0 w') _ by assumption)
    have HZ := Lib.hid (GR.out.trans (kZ.2.2.2.mono GR.out.size))
    clear kZ hS
    go_wp2
    go_ret
    exact ⟨rfl, HZ.out⟩

set_option maxHeartbeats 4000000 in
set_option maxRecDepth 100000 in
theorem rcdig (b : Ct.Blk) (u : Value) (w : World) (hu : TxAt w u b.2.2) (hf : CutFit b) (h63 : b.1 ≤ 9223372036854775807) :
    Calls Tryd.prog 18 #[blkV b u] w fun e w' => e = .returned (tx (Ct.dig b)) ∧ Below w.heap.size w w' := by
  obtain ⟨n, p, ls⟩ := b
  obtain ⟨f1, f2, f3⟩ := hf
  simp only at f1 f2 f3 hu h63
  obtain ⟨K, hK⟩ : ∃ K : Nat, n.toNat = K := ⟨_, rfl⟩
  have hK63 : K ≤ 9223372036854775807 := by omega
  obtain ⟨nb, hnb⟩ : ∃ x, Dg.num K = x := ⟨_, rfl⟩
  obtain ⟨tb, htb⟩ : ∃ x, Dg.text p = x := ⟨_, rfl⟩
  obtain ⟨rb, hrb⟩ : ∃ x, Dg.row ls = x := ⟨_, rfl⟩
  have l1 : nb.length ≤ 9 := by rw [← hnb]; exact Dg.num_len _
  have l2 : tb.length ≤ p.length + 9 := by rw [← htb, Dg.text, List.length_append]; have := Dg.num_len p.length; omega
  have l3 : rb.length ≤ 4294967296 + 9 := by rw [← hrb, Dg.row, List.length_append]; have := Dg.num_len ls.length; omega
  obtain ⟨s1, hs1⟩ : ∃ x, 107 :: nb = x := ⟨_, rfl⟩
  obtain ⟨s2, hs2⟩ : ∃ x, s1 ++ tb = x := ⟨_, rfl⟩
  obtain ⟨s3, hs3⟩ : ∃ x, s2 ++ rb = x := ⟨_, rfl⟩
  have l4 : s1.length ≤ 10 := by rw [← hs1]; simp; omega
  have l5 : s2.length ≤ s1.length + tb.length := by rw [← hs2, List.length_append]; omega
  have l6 : s3.length ≤ s2.length + rb.length := by rw [← hs3, List.length_append]; omega
  obtain ⟨d, hd⟩ : ∃ x, Sh.sum s3 = x := ⟨_, rfl⟩
  have hdig : Ct.dig (n, p, ls) = d := by
    rw [← hd, ← hs3, ← hs2, ← hs1, ← hnb, ← htb, ← hrb, ← hK, Ct.dig]
    simp
  rw [hdig]
  have e1 : ∀ W, (Op.stringOp .add (⟨[107].toArray⟩ : ByteArray) ⟨nb.toArray⟩).run Tryd.prog W = .ok (tx s1) W := fun W => by rw [cat_runS [107] nb (by simp; omega) W, ← hs1]; rfl
  have e2 : ∀ W, (Op.stringOp .add (⟨s1.toArray⟩ : ByteArray) ⟨tb.toArray⟩).run Tryd.prog W = .ok (tx s2) W := fun W => by rw [cat_runS s1 tb (by omega) W, hs2]
  have e3 : ∀ W, (Op.stringOp .add (⟨s2.toArray⟩ : ByteArray) ⟨rb.toArray⟩).run Tryd.prog W = .ok (tx s3) W := fun W => by rw [cat_runS s2 rb (by omega) W, hs3]
  have HNB := Lib.hid hnb
  have HTB := Lib.hid htb
  have HRB := Lib.hid hrb
  have HD := Lib.hid hd
  have HL := Lib.hid (show s3.length ≤ 140737488351232 by omega)
  obtain ⟨C, hC⟩ : ∃ C, w.heap.size = C := ⟨_, rfl⟩
  obtain ⟨w0, hw0⟩ : ∃ w0, w.alloc (.cells #[iv n, tx p, u] 25) = w0 := ⟨_, rfl⟩
  have GR := Lib.hid (show Below w.heap.size w w0 by rw [← hw0]; exact (Below.refl _ _).alloc (Nat.le_refl _) _)
  have r0 : w0.cell? ⟨C, 0, none⟩ = some (.int .i64 n) := by rw [← hw0, ← hC]; simp [iv]
  have r1 : w0.cell? ⟨C, 1, none⟩ = some (tx p) := by rw [← hw0, ← hC]; simp
  have r2 : w0.cell? ⟨C, 2, none⟩ = some u := by rw [← hw0, ← hC]; simp
  have HU := Lib.hid (hu.below GR.out)
  have hS : (fun w' : World => w'.cell? ⟨C, 0, none⟩ = some (.int .i64 n) ∧ w'.cell? ⟨C, 1, none⟩ = some (tx p) ∧ w'.cell? ⟨C, 2, none⟩ = some u ∧ Below w0.heap.size w0 w') w0 := ⟨r0, r1, r2, Below.refl _ _⟩
  have hk := Lib.hid (show ∀ A1 A2 : World, (fun w' : World => w'.cell? ⟨C, 0, none⟩ = some (.int .i64 n) ∧ w'.cell? ⟨C, 1, none⟩ = some (tx p) ∧ w'.cell? ⟨C, 2, none⟩ = some u ∧ Below w0.heap.size w0 w') A1 → Below A1.heap.size A1 A2 → (fun w' : World => w'.cell? ⟨C, 0, none⟩ = some (.int .i64 n) ∧ w'.cell? ⟨C, 1, none⟩ = some (tx p) ∧ w'.cell? ⟨C, 2, none⟩ = some u ∧ Below w0.heap.size w0 w') A2 from fun A1 A2 ⟨k0, k1, k2, kb⟩ h => ⟨below_cell h k0, below_cell h k1, below_cell h k2, grow_trans kb h⟩)
  have HK := Lib.hid hK
  clear hu hnb htb hrb hs1 hs2 hs3 hd hdig l1 l2 l3 l4 l5 l6 hK
  by_cases hn : 0 < n
  · have t1 : decide ((0 : Int) < n) = true := decide_eq_true hn
    have t2 : max n 0 = n := by omega
    have t3 : IntKind.u64.wrap n = (K : Int) := by rw [IntWalk.u64_in _ ⟨by omega, by omega⟩]; have := HK.out; omega
    clear hn
    go_enter Tryd.func18, Tryd.ntmps18
    go_upto_region 4 with fail
    refine wp_region_held_drew (S := (fun w' : World => w'.cell? ⟨C, 0, none⟩ = some (.int .i64 n) ∧ w'.cell? ⟨C, 1, none⟩ = some (tx p) ∧ w'.cell? ⟨C, 2, none⟩ = some u ∧ Below w0.heap.size w0 w')) (by kernel_rfl) ?_ (fun hHeld => ?_)
    · exact hk.out _ _ hS (Below.drew (Below.refl _ _))
    refine takeW (i := 0) (v := ?_) rfl (by kernel_rfl) (by kernel_rfl) (by kernel_rfl) (fun _ _ _ h => h) (by rfl) ?_ (by assumption) ?_
    rotate_left
    focus (intro w hSw; (try dsimp only at hSw); go_simp; try (with_reducible rfl))
    simp only [Act.put, List.setIfInBounds_toArray, List.set_cons_zero, List.set_cons_succ]
    refine takeW (i := 3) (v := ?_) rfl (by kernel_rfl) (by kernel_rfl) (by kernel_rfl) (fun _ _ _ h => h) (by rfl) ?_ (by assumption) ?_
    rotate_left
    focus (intro w hSw; (try dsimp only at hSw); go_simp; try (with_reducible rfl))
    simp only [Act.put, List.setIfInBounds_toArray, List.set_cons_zero, List.set_cons_succ]
    refine takeW (i := 4) (v := ?_) rfl (by kernel_rfl) (by kernel_rfl) (by kernel_rfl) (fun _ _ _ h => h) (by rfl) ?_ (by assumption) ?_
    rotate_left
    focus (intro w hSw; (try dsimp only at hSw); go_simp; try (with_reducible rfl))
    simp only [Act.put, List.setIfInBounds_toArray, List.set_cons_zero, List.set_cons_succ]
    refine takeW (i := 7) (v := ?_) rfl (by kernel_rfl) (by kernel_rfl) (by kernel_rfl) (fun _ _ _ h => h) (by rfl) ?_ (by assumption) ?_
    rotate_left
    focus (intro w hSw; (try dsimp only at hSw); go_simp; try (with_reducible rfl))
    simp only [Act.put, List.setIfInBounds_toArray, List.set_cons_zero, List.set_cons_succ]
    refine takeW (i := 8) (v := ?_) rfl (by kernel_rfl) (by kernel_rfl) (by kernel_rfl) (fun _ _ _ h => h) (by rfl) ?_ (by assumption) ?_
    rotate_left
    focus (intro w hSw; (try dsimp only at hSw); go_simp; try (with_reducible rfl))
    simp only [Act.put, List.setIfInBounds_toArray, List.set_cons_zero, List.set_cons_succ]
    refine readyOne (i := 1) (by kernel_rfl) rfl (fun K hK => ?_)
    go_simp
    refine (rnum_eq HNB.out (by omega) _).mono ?_
    rintro e w9 ⟨rfl, h9⟩
    have kS : (fun w' : World => w'.cell? ⟨C, 0, none⟩ = some (.int .i64 n) ∧ w'.cell? ⟨C, 1, none⟩ = some (tx p) ∧ w'.cell? ⟨C, 2, none⟩ = some u ∧ Below w0.heap.size w0 w') w9 := hk.out _ _ (by assumption) h9
    go_wp2_with fail
    refine hK.out _ _ kS (fun hHeld => ?_)
    clear hK K
    refine takeW (i := 2) (v := ?_) rfl (by kernel_rfl) (by kernel_rfl) (by kernel_rfl) (fun _ _ _ h => h) (by rfl) ?_ (by assumption) ?_
    rotate_left
    focus (intro w hSw; (try dsimp only at hSw); go_simp; try (with_reducible rfl))
    simp only [Act.put, List.setIfInBounds_toArray, List.set_cons_zero, List.set_cons_succ]
    refine readyOne (i := 5) (by kernel_rfl) rfl (fun K hK => ?_)
    go_simp
    refine (rtext_eq HTB.out (by omega) _).mono ?_
    rintro e w9 ⟨rfl, h9⟩
    have kS : (fun w' : World => w'.cell? ⟨C, 0, none⟩ = some (.int .i64 n) ∧ w'.cell? ⟨C, 1, none⟩ = some (tx p) ∧ w'.cell? ⟨C, 2, none⟩ = some u ∧ Below w0.heap.size w0 w') w9 := hk.out _ _ (by assumption) h9
    go_wp2_with fail
    refine hK.out _ _ kS (fun hHeld => ?_)
    clear hK K
    refine takeW (i := 6) (v := ?_) rfl (by kernel_rfl) (by kernel_rfl) (by kernel_rfl) (fun _ _ _ h => h) (by rfl) ?_ (by assumption) ?_
    rotate_left
    focus (intro w hSw; (try dsimp only at hSw); go_simp; try (with_reducible rfl))
    simp only [Act.put, List.setIfInBounds_toArray, List.set_cons_zero, List.set_cons_succ]
    refine readyOne (i := 9) (by kernel_rfl) rfl (fun K hK => ?_)
    go_simp
    refine (crrow_eq HRB.out _ (HU.out.below (show (fun w' : World => w'.cell? ⟨C, 0, none⟩ = some (.int .i64 n) ∧ w'.cell? ⟨C, 1, none⟩ = some (tx p) ∧ w'.cell? ⟨C, 2, none⟩ = some u ∧ Below w0.heap.size w0 w') _ by assumption).2.2.2) (by omega) (by omega)).mono ?_
    rintro e w9 ⟨rfl, h9⟩
    have kS : (fun w' : World => w'.cell? ⟨C, 0, none⟩ = some (.int .i64 n) ∧ w'.cell? ⟨C, 1, none⟩ = some (tx p) ∧ w'.cell? ⟨C, 2, none⟩ = some u ∧ Below w0.heap.size w0 w') w9 := hk.out _ _ (by assumption) h9
    go_wp2_with fail
    refine hK.out _ _ kS (fun hHeld => ?_)
    clear hK K
    refine takeW (i := 10) (v := ?_) rfl (by kernel_rfl) (by kernel_rfl) (by kernel_rfl) (fun _ _ _ h => h) (by rfl) ?_ (by assumption) ?_
    rotate_left
    focus (intro w hSw; (try dsimp only at hSw); go_simp; try (with_reducible rfl))
    simp only [Act.put, List.setIfInBounds_toArray, List.set_cons_zero, List.set_cons_succ]
    refine readyOne (i := 11) (by kernel_rfl) rfl (fun K hK => ?_)
    go_simp
    refine (crsum_eq HD.out HL.out _).mono ?_
    rintro e w9 ⟨rfl, h9⟩
    have kS : (fun w' : World => w'.cell? ⟨C, 0, none⟩ = some (.int .i64 n) ∧ w'.cell? ⟨C, 1, none⟩ = some (tx p) ∧ w'.cell? ⟨C, 2, none⟩ = some u ∧ Below w0.heap.size w0 w') w9 := hk.out _ _ (by assumption) h9
    go_wp2_with fail
    refine hK.out _ _ kS (fun hHeld => ?_)
    clear hK K
    refine takeW (i := 12) (v := ?_) rfl (by kernel_rfl) (by kernel_rfl) (by kernel_rfl) (fun _ _ _ h => h) (by rfl) ?_ (by assumption) ?_
    rotate_left
    focus (intro w hSw; (try dsimp only at hSw); go_simp; try (with_reducible rfl))
    simp only [Act.put, List.setIfInBounds_toArray, List.set_cons_zero, List.set_cons_succ]
    refine wpAnyH_done (by kernel_rfl) ?_ _
    have kZ := (show (fun w' : World => w'.cell? ⟨C, 0, none⟩ = some (.int .i64 n) ∧ w'.cell? ⟨C, 1, none⟩ = some (tx p) ∧ w'.cell? ⟨C, 2, none⟩ = some u ∧ Below w0.heap.size w0 w') _ by assumption)
    have HZ := Lib.hid (GR.out.trans (kZ.2.2.2.mono GR.out.size))
    clear kZ hS
    go_wp2
    go_ret
    exact ⟨rfl, HZ.out⟩
  · obtain rfl : K = 0 := by have := HK.out; omega
    have t1 : decide ((0 : Int) < n) = false := decide_eq_false hn
    have t2 : max n 0 = 0 := by omega
    clear hn
    go_enter Tryd.func18, Tryd.ntmps18
    go_upto_region 4 with fail
    refine wp_region_held_drew (S := (fun w' : World => w'.cell? ⟨C, 0, none⟩ = some (.int .i64 n) ∧ w'.cell? ⟨C, 1, none⟩ = some (tx p) ∧ w'.cell? ⟨C, 2, none⟩ = some u ∧ Below w0.heap.size w0 w')) (by kernel_rfl) ?_ (fun hHeld => ?_)
    · exact hk.out _ _ hS (Below.drew (Below.refl _ _))
    refine takeW (i := 0) (v := ?_) rfl (by kernel_rfl) (by kernel_rfl) (by kernel_rfl) (fun _ _ _ h => h) (by rfl) ?_ (by assumption) ?_
    rotate_left
    focus (intro w hSw; (try dsimp only at hSw); go_simp; try (with_reducible rfl))
    simp only [Act.put, List.setIfInBounds_toArray, List.set_cons_zero, List.set_cons_succ]
    refine takeW (i := 3) (v := ?_) rfl (by kernel_rfl) (by kernel_rfl) (by kernel_rfl) (fun _ _ _ h => h) (by rfl) ?_ (by assumption) ?_
    rotate_left
    focus (intro w hSw; (try dsimp only at hSw); go_simp; try (with_reducible rfl))
    simp only [Act.put, List.setIfInBounds_toArray, List.set_cons_zero, List.set_cons_succ]
    refine takeW (i := 4) (v := ?_) rfl (by kernel_rfl) (by kernel_rfl) (by kernel_rfl) (fun _ _ _ h => h) (by rfl) ?_ (by assumption) ?_
    rotate_left
    focus (intro w hSw; (try dsimp only at hSw); go_simp; try (with_reducible rfl))
    simp only [Act.put, List.setIfInBounds_toArray, List.set_cons_zero, List.set_cons_succ]
    refine takeW (i := 7) (v := ?_) rfl (by kernel_rfl) (by kernel_rfl) (by kernel_rfl) (fun _ _ _ h => h) (by rfl) ?_ (by assumption) ?_
    rotate_left
    focus (intro w hSw; (try dsimp only at hSw); go_simp; try (with_reducible rfl))
    simp only [Act.put, List.setIfInBounds_toArray, List.set_cons_zero, List.set_cons_succ]
    refine takeW (i := 8) (v := ?_) rfl (by kernel_rfl) (by kernel_rfl) (by kernel_rfl) (fun _ _ _ h => h) (by rfl) ?_ (by assumption) ?_
    rotate_left
    focus (intro w hSw; (try dsimp only at hSw); go_simp; try (with_reducible rfl))
    simp only [Act.put, List.setIfInBounds_toArray, List.set_cons_zero, List.set_cons_succ]
    refine readyOne (i := 1) (by kernel_rfl) rfl (fun K hK => ?_)
    go_simp
    refine (rnum_eq HNB.out (by omega) _).mono ?_
    rintro e w9 ⟨rfl, h9⟩
    have kS : (fun w' : World => w'.cell? ⟨C, 0, none⟩ = some (.int .i64 n) ∧ w'.cell? ⟨C, 1, none⟩ = some (tx p) ∧ w'.cell? ⟨C, 2, none⟩ = some u ∧ Below w0.heap.size w0 w') w9 := hk.out _ _ (by assumption) h9
    go_wp2_with fail
    refine hK.out _ _ kS (fun hHeld => ?_)
    clear hK K
    refine takeW (i := 2) (v := ?_) rfl (by kernel_rfl) (by kernel_rfl) (by kernel_rfl) (fun _ _ _ h => h) (by rfl) ?_ (by assumption) ?_
    rotate_left
    focus (intro w hSw; (try dsimp only at hSw); go_simp; try (with_reducible rfl))
    simp only [Act.put, List.setIfInBounds_toArray, List.set_cons_zero, List.set_cons_succ]
    refine readyOne (i := 5) (by kernel_rfl) rfl (fun K hK => ?_)
    go_simp
    refine (rtext_eq HTB.out (by omega) _).mono ?_
    rintro e w9 ⟨rfl, h9⟩
    have kS : (fun w' : World => w'.cell? ⟨C, 0, none⟩ = some (.int .i64 n) ∧ w'.cell? ⟨C, 1, none⟩ = some (tx p) ∧ w'.cell? ⟨C, 2, none⟩ = some u ∧ Below w0.heap.size w0 w') w9 := hk.out _ _ (by assumption) h9
    go_wp2_with fail
    refine hK.out _ _ kS (fun hHeld => ?_)
    clear hK K
    refine takeW (i := 6) (v := ?_) rfl (by kernel_rfl) (by kernel_rfl) (by kernel_rfl) (fun _ _ _ h => h) (by rfl) ?_ (by assumption) ?_
    rotate_left
    focus (intro w hSw; (try dsimp only at hSw); go_simp; try (with_reducible rfl))
    simp only [Act.put, List.setIfInBounds_toArray, List.set_cons_zero, List.set_cons_succ]
    refine readyOne (i := 9) (by kernel_rfl) rfl (fun K hK => ?_)
    go_simp
    refine (crrow_eq HRB.out _ (HU.out.below (show (fun w' : World => w'.cell? ⟨C, 0, none⟩ = some (.int .i64 n) ∧ w'.cell? ⟨C, 1, none⟩ = some (tx p) ∧ w'.cell? ⟨C, 2, none⟩ = some u ∧ Below w0.heap.size w0 w') _ by assumption).2.2.2) (by omega) (by omega)).mono ?_
    rintro e w9 ⟨rfl, h9⟩
    have kS : (fun w' : World => w'.cell? ⟨C, 0, none⟩ = some (.int .i64 n) ∧ w'.cell? ⟨C, 1, none⟩ = some (tx p) ∧ w'.cell? ⟨C, 2, none⟩ = some u ∧ Below w0.heap.size w0 w') w9 := hk.out _ _ (by assumption) h9
    go_wp2_with fail
    refine hK.out _ _ kS (fun hHeld => ?_)
    clear hK K
    refine takeW (i := 10) (v := ?_) rfl (by kernel_rfl) (by kernel_rfl) (by kernel_rfl) (fun _ _ _ h => h) (by rfl) ?_ (by assumption) ?_
    rotate_left
    focus (intro w hSw; (try dsimp only at hSw); go_simp; try (with_reducible rfl))
    simp only [Act.put, List.setIfInBounds_toArray, List.set_cons_zero, List.set_cons_succ]
    refine readyOne (i := 11) (by kernel_rfl) rfl (fun K hK => ?_)
    go_simp
    refine (crsum_eq HD.out HL.out _).mono ?_
    rintro e w9 ⟨rfl, h9⟩
    have kS : (fun w' : World => w'.cell? ⟨C, 0, none⟩ = some (.int .i64 n) ∧ w'.cell? ⟨C, 1, none⟩ = some (tx p) ∧ w'.cell? ⟨C, 2, none⟩ = some u ∧ Below w0.heap.size w0 w') w9 := hk.out _ _ (by assumption) h9
    go_wp2_with fail
    refine hK.out _ _ kS (fun hHeld => ?_)
    clear hK K
    refine takeW (i := 12) (v := ?_) rfl (by kernel_rfl) (by kernel_rfl) (by kernel_rfl) (fun _ _ _ h => h) (by rfl) ?_ (by assumption) ?_
    rotate_left
    focus (intro w hSw; (try dsimp only at hSw); go_simp; try (with_reducible rfl))
    simp only [Act.put, List.setIfInBounds_toArray, List.set_cons_zero, List.set_cons_succ]
    refine wpAnyH_done (by kernel_rfl) ?_ _
    have kZ := (show (fun w' : World => w'.cell? ⟨C, 0, none⟩ = some (.int .i64 n) ∧ w'.cell? ⟨C, 1, none⟩ = some (tx p) ∧ w'.cell? ⟨C, 2, none⟩ = some u ∧ Below w0.heap.size w0 w') _ by assumption)
    have HZ := Lib.hid (GR.out.trans (kZ.2.2.2.mono GR.out.size))
    clear kZ hS
    go_wp2
    go_ret
    exact ⟨rfl, HZ.out⟩
end Go.Proofs.YtldhkgelifmipaaDoor
