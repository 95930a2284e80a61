/- Package batch as it landed: Digest. -/
import Derived.Test.YtlejffgmaokpnaaDoorBatOpen
import Derived.Test.YtlejffgmaokpnaaDoorShaSum
namespace Bt
def digestR (b : Bat) : List UInt8 × Nat := if may b = true then (Sh.sum (98 :: bytes b), 0) else ([], 1)
theorem digestR_ok {b : Bat} (h : may b = true) : digestR b = (Sh.sum (98 :: bytes b), 0) := by rw [digestR, if_pos h]
theorem digestR_no {b : Bat} (h : may b = false) : digestR b = ([], 1) := by rw [digestR, if_neg (by simp [h])]
theorem bytes_300 {b : Bat} (h : may b = true) : (bytes b).length ≤ 400 := by
  obtain ⟨o, q, l⟩ := b
  obtain ⟨m1, m2, m3, m4, m5, m6, m7⟩ := (may_iff _).1 h
  simp only [] at m5 m6 m7
  have ht := texts_48 l m7
  have l1 : (Dg.num o.toNat).length ≤ 9 := Dg.num_len _
  have l2 : (Dg.num q.toNat).length ≤ 9 := Dg.num_len _
  have l3 : (Dg.num l.length).length ≤ 9 := Dg.num_len _
  have e : bytes (o, q, l) = (Dg.num o.toNat ++ Dg.num q.toNat) ++ Dg.row l := rfl
  rw [e, List.length_append, List.length_append, Dg.row, List.length_append]
  omega
end Bt
namespace Go.Proofs.YtlejffgmaokpnaaDoor
open Go.RowKit
attribute [local go_sem] ByteArray.mk_append_mk
theorem psum_eq {s r : List UInt8} (h : Sh.sum s = r) (hs : s.length ≤ 140737488351232) (w : World) (hw : GW w) :
    Calls Tryd.prog 12 #[tx s] w fun e w' => e = .returned (tx r) ∧ Below w.heap.size w w' := by subst h; exact psum s hs w hw
theorem sum_len (s : List UInt8) : (Sh.sum s).length = 32 := by
  obtain ⟨a, b, c, d, e, f, g, k, h⟩ := Sh.eight _ (Sh.after_len (Sh.pad s) ((Sh.pad s).length / 64))
  rw [Sh.sum, h]
  rfl

set_option maxHeartbeats 1000000 in
theorem pbdigest (o q : Int) (v : Value) (l : List (List UInt8)) (w : World) (hv : TxAt w v l) (hl : l.length ≤ 140737488351232) (hw : GW w) :
    Calls Tryd.prog 8 #[batV o q v] w fun e w' => e = .returned (.tuple #[tx (Bt.digestR (o, q, l)).1, .int .i64 (Bt.digestR (o, q, l)).2]) ∧ Below w.heap.size w w' := by
  have hg : Below w.heap.size w (w.alloc (.cells #[.int .i64 o, .int .i64 q, v] 24)) := (Below.refl _ _).alloc (Nat.le_refl _) _
  have hb := pbbytes_eq (b := (o, q, l)) rfl _ (hv.below hg) hl
  have HG := Lib.hid hg
  have HW := Lib.hid hw
  obtain ⟨av, cv, rfl⟩ := hv.len
  cases hm : Bt.may (o, q, l) with
  | false =>
    rw [Bt.digestR_no hm]
    rw [Bt.bytesR_no hm] at hb
    have HB := Lib.hid hb
    clear hb hm hg hv hw
    go_enter Tryd.func8, Tryd.ntmps8
    go_wp2_with fail
    refine HB.out.mono ?_
    rintro e w1 ⟨rfl, hb1⟩
    have hb2 := grow_trans HG.out (hb1.mono (by simp))
    go_wp2
    go_ret2
    exact ⟨rfl, hb2⟩
  | true =>
    rw [Bt.digestR_ok hm]
    rw [Bt.bytesR_ok hm] at hb
    have hbl := Bt.bytes_300 hm
    obtain ⟨bs, hbs⟩ : ∃ bs, Bt.bytes (o, q, l) = bs := ⟨_, rfl⟩
    rw [hbs] at hb hbl ⊢
    obtain ⟨d, hd⟩ : ∃ d, Sh.sum (98 :: bs) = d := ⟨_, rfl⟩
    rw [hd]
    have e1 := fun W => cat_run [98] bs (by simp; omega) W
    have HS := Lib.hid (fun W hW => psum_eq hd (by simp; omega) W hW)
    have HB := Lib.hid hb
    clear hb hm hg hv hw hbs hbl hd
    go_enter Tryd.func8, Tryd.ntmps8
    go_wp2_with fail
    refine HB.out.mono ?_
    rintro e w1 ⟨rfl, hb1⟩
    have hb2 := grow_trans HG.out (hb1.mono (by simp))
    have hgw := HW.out.below hb2
    clear hb1
    go_wp2_with fail
    refine (HS.out _ hgw).mono ?_
    rintro e w2 ⟨rfl, hb3⟩
    have hb4 := grow_trans hb2 hb3
    clear hb2 hb3
    go_wp2
    go_ret2
    exact ⟨rfl, hb4⟩
theorem pbdigest_eq {b : Bt.Bat} {v : Value} {R : List UInt8 × Nat} (h : Bt.digestR b = R) (w : World) (hv : TxAt w v b.2.2) (hl : b.2.2.length ≤ 140737488351232) (hw : GW w) :
    Calls Tryd.prog 8 #[batV b.1 b.2.1 v] w fun e w' => e = .returned (.tuple #[tx R.1, .int .i64 R.2]) ∧ Below w.heap.size w w' := by subst h; exact pbdigest b.1 b.2.1 v b.2.2 w hv hl hw
end Go.Proofs.YtlejffgmaokpnaaDoor
