/- Package batch as it landed: Bytes. -/
import Derived.Test.YtflmfbcjmjlkbaaDoorBatGo
import Derived.Test.YtflmfbcjmjlkbaaDoorBatBox
import Derived.Test.YtflmfbcjmjlkbaaDoorDigRow
import Derived.Test.YtflmfbcjmjlkbaaDoorKeep
namespace Go.Proofs.YtflmfbcjmjlkbaaDoor
open Go.RowKit
attribute [local go_sem] ByteArray.mk_append_mk

theorem row_eq {v : Value} {ls : List (List UInt8)} {r : List UInt8} (h : Dg.row ls = r) (w : World) (hv : TxAt w v ls) (hl : ls.length ≤ 4294967296) (ht : (Dg.texts ls).length ≤ 4294967296) :
    Calls Tryd.prog 67 #[v] w fun e w' => e = .returned (tx r) ∧ Below w.heap.size w w' := by subst h; exact row_any v ls w hv hl ht
theorem bnum_eq {n : Int} {l : List UInt8} (h0 : 0 ≤ n) (h1 : n ≤ 9223372036854775807) (h : Dg.num n.toNat = l) (w : World) :
    Calls Tryd.prog 41 #[.int .u64 n] w fun e w' => e = .returned (tx l) ∧ Below w.heap.size w w' := by
  obtain ⟨m, rfl⟩ := Int.eq_ofNat_of_zero_le h0
  subst h
  exact num_any m (by omega) w

theorem cat_run (x y : List UInt8) (h : ¬ (x.length + y.length > 9223372036854775807)) (W : World) : (Op.stringOp .add (⟨x.toArray⟩ : ByteArray) ⟨y.toArray⟩).run Tryd.prog W = .ok (tx (x ++ y)) W := by
  rw [run_string_add_sum (P := Tryd.prog) W _ _ (by simp [ByteArray.size]; omega), ByteArray.mk_append_mk]

set_option maxHeartbeats 2000000 in
theorem pbbytes (o q : Int) (v : Value) (l : List (List UInt8)) (w : World) (hv : TxAt w v l) (hl : l.length ≤ 140737488351232) :
    Calls Tryd.prog 52 #[batV o q v] w fun e w' => e = .returned (.tuple #[tx (Bt.bytesR (o, q, l)).1, .int .i64 (Bt.bytesR (o, q, l)).2]) ∧ Below w.heap.size w w' := by
  have hg : Below w.heap.size w (w.alloc (.cells #[.int .i64 o, .int .i64 q, v] 68)) := (Below.refl _ _).alloc (Nat.le_refl _) _
  have hmay := pbmay o q v l _ (hv.below hg) hl
  have hbx := BBox.new w o q v
  have HBX := Lib.hid hbx
  have HG := Lib.hid hg
  have HV := Lib.hid hv
  obtain ⟨av, cv, rfl⟩ := hv.len
  cases hm : Bt.may (o, q, l) with
  | false =>
    rw [Bt.bytesR_no hm]
    rw [hm] at hmay
    have HM := Lib.hid hmay
    clear hmay hm hg hv hbx
    go_enter Tryd.func52, Tryd.ntmps52
    go_wp2_with fail
    refine HM.out.mono ?_
    rintro e w1 ⟨rfl, hb⟩
    have hb2 := grow_trans HG.out (hb.mono (by simp))
    go_wp2
    go_ret2
    exact ⟨rfl, hb2⟩
  | true =>
    rw [Bt.bytesR_ok hm]
    rw [hm] at hmay
    have hmm := (Bt.may_iff _).1 hm
    simp only [] at hmm
    obtain ⟨m1, m2, m3, m4, m5, m6, m7⟩ := hmm
    have ht := Bt.texts_48 l m7
    obtain ⟨n3, hn3⟩ : ∃ n3, Dg.row l = n3 := ⟨_, rfl⟩
    have l1 : (Dg.num o.toNat).length ≤ 9 := Dg.num_len _
    have l2 : (Dg.num q.toNat).length ≤ 9 := Dg.num_len _
    have l3 : n3.length ≤ 300 := by rw [← hn3, Dg.row, List.length_append]; have := Dg.num_len l.length; omega
    have HE := Lib.hid (show Bt.bytes (o, q, l) = Dg.num o.toNat ++ (Dg.num q.toNat ++ n3) by rw [← hn3, ← List.append_assoc]; rfl)
    have b1 : ¬ ((Dg.num o.toNat).length + (Dg.num q.toNat).length > 9223372036854775807) := by omega
    have b2 : ¬ ((Dg.num o.toNat ++ Dg.num q.toNat).length + n3.length > 9223372036854775807) := by rw [List.length_append]; omega
    have e1 := fun W => cat_run (Dg.num o.toNat) (Dg.num q.toNat) b1 W
    have e2 := fun W => cat_run (Dg.num o.toNat ++ Dg.num q.toNat) n3 b2 W
    rw [List.append_assoc] at e2
    clear b1 b2
    clear l1 l2 l3
    have N3 := Lib.hid hn3
    have HM := Lib.hid hmay
    have hT := Lib.hid (show (Dg.texts l).length ≤ 4294967296 by omega)
    have wo : IntKind.u64.wrap o = o := IntWalk.u64_in _ ⟨by omega, by omega⟩
    have wq : IntKind.u64.wrap q = q := IntWalk.u64_in _ ⟨by omega, by omega⟩
    clear hmay hm hg hv hbx hn3 m7 ht
    go_enter Tryd.func52, Tryd.ntmps52
    go_wp2_with fail
    refine HM.out.mono ?_
    rintro e w1 ⟨rfl, hb⟩
    have hb2 := grow_trans HG.out (hb.mono (by simp))
    have bx1 := HBX.out.kept (hb.mono (by simp))
    obtain ⟨c0, c1, c2, _⟩ := bx1.facts
    have BX1 := Lib.hid bx1
    clear bx1 hb
    have hk := Lib.hid (show ∀ a b : World, (fun w' : World => w'.cell? ⟨w.heap.size, 0, none⟩ = some (.int .i64 o) ∧ w'.cell? ⟨w.heap.size, 1, none⟩ = some (.int .i64 q) ∧ w'.cell? ⟨w.heap.size, 2, none⟩ = some (.slice av l.length cv) ∧ Below w.heap.size w w') a → Below a.heap.size a b → (fun w' : World => w'.cell? ⟨w.heap.size, 0, none⟩ = some (.int .i64 o) ∧ w'.cell? ⟨w.heap.size, 1, none⟩ = some (.int .i64 q) ∧ w'.cell? ⟨w.heap.size, 2, none⟩ = some (.slice av l.length cv) ∧ Below w.heap.size w w') b from fun a b ⟨k0, k1, k2, kb⟩ h => ⟨below_cell h k0, below_cell h k1, below_cell h k2, grow_trans kb h⟩)
    have hS : (fun w' : World => w'.cell? ⟨w.heap.size, 0, none⟩ = some (.int .i64 o) ∧ w'.cell? ⟨w.heap.size, 1, none⟩ = some (.int .i64 q) ∧ w'.cell? ⟨w.heap.size, 2, none⟩ = some (.slice av l.length cv) ∧ Below w.heap.size w w') w1 := ⟨c0, c1, c2, hb2⟩
    have hf := Lib.hid (show ∀ n : Int, n = o ∨ n = q → ∀ W, (fun w' : World => w'.cell? ⟨w.heap.size, 0, none⟩ = some (.int .i64 o) ∧ w'.cell? ⟨w.heap.size, 1, none⟩ = some (.int .i64 q) ∧ w'.cell? ⟨w.heap.size, 2, none⟩ = some (.slice av l.length cv) ∧ Below w.heap.size w w') W → Calls Tryd.prog 41 #[.int .u64 n] W fun e w' => e = .returned (tx (Dg.num n.toNat)) ∧ (fun w' : World => w'.cell? ⟨w.heap.size, 0, none⟩ = some (.int .i64 o) ∧ w'.cell? ⟨w.heap.size, 1, none⟩ = some (.int .i64 q) ∧ w'.cell? ⟨w.heap.size, 2, none⟩ = some (.slice av l.length cv) ∧ Below w.heap.size w w') w' from fun n hn W h => keepB (fun w' : World => w'.cell? ⟨w.heap.size, 0, none⟩ = some (.int .i64 o) ∧ w'.cell? ⟨w.heap.size, 1, none⟩ = some (.int .i64 q) ∧ w'.cell? ⟨w.heap.size, 2, none⟩ = some (.slice av l.length cv) ∧ Below w.heap.size w w') hk.out (bnum_eq (by omega) (by omega) rfl W) h)
    have hr := Lib.hid (fun W (h : (fun w' : World => w'.cell? ⟨w.heap.size, 0, none⟩ = some (.int .i64 o) ∧ w'.cell? ⟨w.heap.size, 1, none⟩ = some (.int .i64 q) ∧ w'.cell? ⟨w.heap.size, 2, none⟩ = some (.slice av l.length cv) ∧ Below w.heap.size w w') W) => keepB (fun w' : World => w'.cell? ⟨w.heap.size, 0, none⟩ = some (.int .i64 o) ∧ w'.cell? ⟨w.heap.size, 1, none⟩ = some (.int .i64 q) ∧ w'.cell? ⟨w.heap.size, 2, none⟩ = some (.slice av l.length cv) ∧ Below w.heap.size w w') hk.out (row_eq N3.out W (HV.out.below h.2.2.2) (by omega) hT.out) h)
    clear m1 m2 m3 m4 m5 m6 N3 HV hT BX1 hb2 HBX HG HM hl
    go_wp2_with fail
    go_region_held3 (fun w' : World => w'.cell? ⟨w.heap.size, 0, none⟩ = some (.int .i64 o) ∧ w'.cell? ⟨w.heap.size, 1, none⟩ = some (.int .i64 q) ∧ w'.cell? ⟨w.heap.size, 2, none⟩ = some (.slice av l.length cv) ∧ Below w.heap.size w w')
      (first | assumption | exact hk.out _ _ hS (Below.drew (Below.refl _ _)) | exact hk.out _ _ (by assumption) ((Below.refl _ _).alloc (Nat.le_refl _) _))
      (first
        | (go_at_call 41; refine (hf.out _ (by first | exact .inl rfl | exact .inr rfl) _ (by assumption)).mono ?_; rintro e w1 ⟨rfl, kS⟩)
        | (go_at_call 67; refine (hr.out _ (by assumption)).mono ?_; rintro e w1 ⟨rfl, kS⟩))
    all_goals (go_wp2_with fail; go_ret2; exact ⟨by rw [HE.out]; rfl, (show (fun w' : World => w'.cell? ⟨w.heap.size, 0, none⟩ = some (.int .i64 o) ∧ w'.cell? ⟨w.heap.size, 1, none⟩ = some (.int .i64 q) ∧ w'.cell? ⟨w.heap.size, 2, none⟩ = some (.slice av l.length cv) ∧ Below w.heap.size w w') _ by assumption).2.2.2⟩)
end Go.Proofs.YtflmfbcjmjlkbaaDoor
