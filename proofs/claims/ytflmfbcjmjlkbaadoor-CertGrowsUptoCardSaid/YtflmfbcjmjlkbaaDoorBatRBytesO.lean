/- The document's Bytes of batches. -/
import Derived.Test.YtflmfbcjmjlkbaaDoorBatBytes
import Derived.Test.YtflmfbcjmjlkbaaDoorShaSum
import Derived.Test.YtflmfbcjmjlkbaaDoorBatRef
import Derived.Test.YtflmfbcjmjlkbaaDoorDigRRow
import Derived.Test.YtflmfbcjmjlkbaaDoorShaRSum
set_option maxRecDepth 100000
namespace Go.Proofs.YtflmfbcjmjlkbaaDoor
open Go.RowKit
attribute [local go_sem] ByteArray.mk_append_mk
theorem rrow_eq {v : Value} {ls : List (List UInt8)} {r : List UInt8} (h : Dg.row ls = r) (w : World) (hv : TxAt w v ls) (hl : ls.length ≤ 4294967296) (ht : (Dg.texts ls).length ≤ 4294967296) :
    Calls Tryd.prog 73 #[v] w fun e w' => e = .returned (tx r) ∧ Below w.heap.size w w' := by subst h; exact rrow_any v ls w hv hl ht
theorem rbnum_eq {n : Int} {l : List UInt8} (h0 : 0 ≤ n) (h1 : n ≤ 9223372036854775807) (h : Dg.num n.toNat = l) (w : World) :
    Calls Tryd.prog 72 #[.int .u64 n] w fun e w' => e = .returned (tx l) ∧ Below w.heap.size w w' := by
  obtain ⟨m, rfl⟩ := Int.eq_ofNat_of_zero_le h0
  subst h
  exact rnum_any m (by omega) w
theorem rsum_eqB {s r : List UInt8} (h : Sh.sum s = r) (hs : s.length ≤ 140737488351232) (w : World) :
    Calls Tryd.prog 47 #[tx s] w fun e w' => e = .returned (tx r) ∧ Below w.heap.size w w' := by subst h; exact rsum s hs w

set_option maxHeartbeats 2000000 in
theorem rbbytes (o q : Int) (v : Value) (l : List (List UInt8)) (w : World) (hv : TxAt w v l) (hl : l.length ≤ 140737488351232) :
    Calls Tryd.prog 56 #[batV o q v] w fun e w' => e = .returned (.tuple #[tx (Bt.bytesR (o, q, l)).1, .int .i64 (Bt.bytesR (o, q, l)).2]) ∧ Below w.heap.size w w' := by
  have hg : Below w.heap.size w (w.alloc (.cells #[.int .i64 o, .int .i64 q, v] 68)) := (Below.refl _ _).alloc (Nat.le_refl _) _
  have hmay := rbmay o q v l _ (hv.below hg)
  have hbx := BBox.new w o q v
  have HBX := Lib.hid hbx
  have HG := Lib.hid hg
  have HV := Lib.hid hv
  obtain ⟨av, cv, rfl⟩ := hv.len
  cases hm : Bt.may (o, q, l) with
  | false =>
    rw [Bt.bytesR_no hm]
    rw [hm] at hmay
    have HM := Lib.hid hmay
    clear hmay hm hg hv hbx
    go_enter Tryd.func56, Tryd.ntmps56
    go_wp2_with fail
    refine HM.out.mono ?_
    rintro e w1 ⟨rfl, hb⟩
    have hb2 := grow_trans HG.out (hb.mono (by simp))
    go_wp2
    go_ret2
    exact ⟨rfl, hb2⟩
  | true =>
    rw [Bt.bytesR_ok hm]
    rw [hm] at hmay
    have hmm := (Bt.may_iff _).1 hm
    simp only [] at hmm
    obtain ⟨m1, m2, m3, m4, m5, m6, m7⟩ := hmm
    have ht := Bt.texts_48 l m7
    obtain ⟨n3, hn3⟩ : ∃ n3, Dg.row l = n3 := ⟨_, rfl⟩
    have l1 : (Dg.num o.toNat).length ≤ 9 := Dg.num_len _
    have l2 : (Dg.num q.toNat).length ≤ 9 := Dg.num_len _
    have l3 : n3.length ≤ 300 := by rw [← hn3, Dg.row, List.length_append]; have := Dg.num_len l.length; omega
    have HE := Lib.hid (show Bt.bytes (o, q, l) = Dg.num o.toNat ++ (Dg.num q.toNat ++ n3) by rw [← hn3, ← List.append_assoc]; rfl)
    have b1 : ¬ ((Dg.num o.toNat).length + (Dg.num q.toNat).length > 9223372036854775807) := by omega
    have b2 : ¬ ((Dg.num o.toNat ++ Dg.num q.toNat).length + n3.length > 9223372036854775807) := by rw [List.length_append]; omega
    have e1 := fun W => cat_run (Dg.num o.toNat) (Dg.num q.toNat) b1 W
    have e2 := fun W => cat_run (Dg.num o.toNat ++ Dg.num q.toNat) n3 b2 W
    rw [List.append_assoc] at e2
    clear b1 b2
    clear l1 l2 l3
    have N3 := Lib.hid hn3
    have HM := Lib.hid hmay
    have hT := Lib.hid (show (Dg.texts l).length ≤ 4294967296 by omega)
    have wo : IntKind.u64.wrap o = o := IntWalk.u64_in _ ⟨by omega, by omega⟩
    have wq : IntKind.u64.wrap q = q := IntWalk.u64_in _ ⟨by omega, by omega⟩
    clear hmay hm hg hv hbx hn3 m7 ht
    go_enter Tryd.func56, Tryd.ntmps56
    go_wp2_with fail
    refine HM.out.mono ?_
    rintro e w1 ⟨rfl, hb⟩
    have hb2 := grow_trans HG.out (hb.mono (by simp))
    have bx1 := HBX.out.kept (hb.mono (by simp))
    obtain ⟨c0, c1, c2, _⟩ := bx1.facts
    have BX1 := Lib.hid bx1
    clear bx1 hb
    have hk := Lib.hid (show ∀ a b : World, (fun w' : World => w'.cell? ⟨w.heap.size, 0, none⟩ = some (.int .i64 o) ∧ w'.cell? ⟨w.heap.size, 1, none⟩ = some (.int .i64 q) ∧ w'.cell? ⟨w.heap.size, 2, none⟩ = some (.slice av l.length cv) ∧ Below w.heap.size w w') a → Below a.heap.size a b → (fun w' : World => w'.cell? ⟨w.heap.size, 0, none⟩ = some (.int .i64 o) ∧ w'.cell? ⟨w.heap.size, 1, none⟩ = some (.int .i64 q) ∧ w'.cell? ⟨w.heap.size, 2, none⟩ = some (.slice av l.length cv) ∧ Below w.heap.size w w') b from fun a b ⟨k0, k1, k2, kb⟩ h => ⟨below_cell h k0, below_cell h k1, below_cell h k2, grow_trans kb h⟩)
    have hS : (fun w' : World => w'.cell? ⟨w.heap.size, 0, none⟩ = some (.int .i64 o) ∧ w'.cell? ⟨w.heap.size, 1, none⟩ = some (.int .i64 q) ∧ w'.cell? ⟨w.heap.size, 2, none⟩ = some (.slice av l.length cv) ∧ Below w.heap.size w w') w1 := ⟨c0, c1, c2, hb2⟩
    have hf := Lib.hid (show ∀ n : Int, n = o ∨ n = q → ∀ W, (fun w' : World => w'.cell? ⟨w.heap.size, 0, none⟩ = some (.int .i64 o) ∧ w'.cell? ⟨w.heap.size, 1, none⟩ = some (.int .i64 q) ∧ w'.cell? ⟨w.heap.size, 2, none⟩ = some (.slice av l.length cv) ∧ Below w.heap.size w w') W → Calls Tryd.prog 72 #[.int .u64 n] W fun e w' => e = .returned (tx (Dg.num n.toNat)) ∧ (fun w' : World => w'.cell? ⟨w.heap.size, 0, none⟩ = some (.int .i64 o) ∧ w'.cell? ⟨w.heap.size, 1, none⟩ = some (.int .i64 q) ∧ w'.cell? ⟨w.heap.size, 2, none⟩ = some (.slice av l.length cv) ∧ Below w.heap.size w w') w' from fun n hn W h => keepB (fun w' : World => w'.cell? ⟨w.heap.size, 0, none⟩ = some (.int .i64 o) ∧ w'.cell? ⟨w.heap.size, 1, none⟩ = some (.int .i64 q) ∧ w'.cell? ⟨w.heap.size, 2, none⟩ = some (.slice av l.length cv) ∧ Below w.heap.size w w') hk.out (rbnum_eq (by omega) (by omega) rfl W) h)
    have hr := Lib.hid (fun W (h : (fun w' : World => w'.cell? ⟨w.heap.size, 0, none⟩ = some (.int .i64 o) ∧ w'.cell? ⟨w.heap.size, 1, none⟩ = some (.int .i64 q) ∧ w'.cell? ⟨w.heap.size, 2, none⟩ = some (.slice av l.length cv) ∧ Below w.heap.size w w') W) => keepB (fun w' : World => w'.cell? ⟨w.heap.size, 0, none⟩ = some (.int .i64 o) ∧ w'.cell? ⟨w.heap.size, 1, none⟩ = some (.int .i64 q) ∧ w'.cell? ⟨w.heap.size, 2, none⟩ = some (.slice av l.length cv) ∧ Below w.heap.size w w') hk.out (rrow_eq N3.out W (HV.out.below h.2.2.2) (by omega) hT.out) h)
    clear m1 m2 m3 m4 m5 m6 N3 HV hT BX1 hb2 HBX HG HM hl
    go_wp2_with fail
    go_region_held3 (fun w' : World => w'.cell? ⟨w.heap.size, 0, none⟩ = some (.int .i64 o) ∧ w'.cell? ⟨w.heap.size, 1, none⟩ = some (.int .i64 q) ∧ w'.cell? ⟨w.heap.size, 2, none⟩ = some (.slice av l.length cv) ∧ Below w.heap.size w w')
      (first | assumption | exact hk.out _ _ hS (Below.drew (Below.refl _ _)) | exact hk.out _ _ (by assumption) ((Below.refl _ _).alloc (Nat.le_refl _) _))
      (first
        | (go_at_call 72; refine (hf.out _ (by first | exact .inl rfl | exact .inr rfl) _ (by assumption)).mono ?_; rintro e w1 ⟨rfl, kS⟩)
        | (go_at_call 73; refine (hr.out _ (by assumption)).mono ?_; rintro e w1 ⟨rfl, kS⟩))
    all_goals (go_wp2_with fail; go_ret2; exact ⟨by rw [HE.out]; rfl, (show (fun w' : World => w'.cell? ⟨w.heap.size, 0, none⟩ = some (.int .i64 o) ∧ w'.cell? ⟨w.heap.size, 1, none⟩ = some (.int .i64 q) ∧ w'.cell? ⟨w.heap.size, 2, none⟩ = some (.slice av l.length cv) ∧ Below w.heap.size w w') _ by assumption).2.2.2⟩)
theorem rbbytes_eq {b : Bt.Bat} {v : Value} {R : List UInt8 × Nat} (h : Bt.bytesR b = R) (w : World) (hv : TxAt w v b.2.2) (hl : b.2.2.length ≤ 140737488351232) :
    Calls Tryd.prog 56 #[batV b.1 b.2.1 v] w fun e w' => e = .returned (.tuple #[tx R.1, .int .i64 R.2]) ∧ Below w.heap.size w w' := by subst h; exact rbbytes b.1 b.2.1 v b.2.2 w hv hl
end Go.Proofs.YtflmfbcjmjlkbaaDoor
