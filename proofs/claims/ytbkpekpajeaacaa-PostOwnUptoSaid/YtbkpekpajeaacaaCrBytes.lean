/- Package cert as it landed: Bytes; the document's Same. -/
import Derived.Test.YtbkpekpajeaacaaCrABC
import Derived.Test.YtbkpekpajeaacaaTkC
namespace Go.Proofs.Ytbkpekpajeaacaa
open Go.RowKit
set_option maxRecDepth 100000
attribute [local go_sem] ByteArray.mk_append_mk

set_option maxHeartbeats 4000000 in
theorem pcbytes (n : Int) (p : Cr.Prf) (bv pv : Value) (w : World) (hb : BtsAt w bv p.1.2.2.1) (hp : TxAt w pv p.1.2.2.2.1) (mv : Vt.Mod p.1) (hx : p.2 < 18446744073709551616) (n1 : -9223372036854775808 ≤ n) (n2 : n ≤ 9223372036854775807) :
    Calls Try.prog 36 #[prfV p.1.1 p.1.2.1 bv pv p.1.2.2.2.2.1 p.1.2.2.2.2.2 p.2, .int .i64 n] w fun e w' => e = .returned (.tuple #[tx (Cr.bytesR p n).1, .int .i64 (Cr.bytesR p n).2]) ∧ Below w.heap.size w w' := by
  have MV := Lib.hid mv
  obtain ⟨v, x⟩ := p
  simp only [] at hb hp hx
  obtain ⟨en, hen⟩ : ∃ z, Cr.enough n x = z := ⟨_, rfl⟩
  have HEN := Lib.hid hen
  have HB := Lib.hid hb
  have HP := Lib.hid hp
  obtain ⟨ab, cb, hbe⟩ := hb.len
  obtain ⟨ap, cp, hpe⟩ := hp.len
  cases hm : Vt.may v n with
  | false =>
    have E := Lib.hid (show Cr.bytesR (v, x) n = ([], 1) by
      have hf : Cr.fits (v, x) n = 1 := by unfold Cr.fits; rw [if_neg (by simp [hm])]
      rw [Cr.bytesR_no (by rw [hf]; omega), hf])
    have HD := Lib.hid (Vt.bytesR_no hm)
    obtain ⟨a, r, bs, ps, y, z⟩ := v
    simp only [] at hbe hpe HB HP
    subst hbe hpe
    have P0 := Lib.hid (PBox.new w a r (.slice ab bs.length cb) (.slice ap ps.length cp) y z x)
    have HG := Lib.hid (show Below w.heap.size w (w.alloc (.cells #[.int .i64 a, .int .i64 r, .slice ab bs.length cb, .slice ap ps.length cp, .int .i64 y, .int .i64 z, .int .u64 x] 41)) from (Below.refl _ _).alloc (Nat.le_refl _) _)
    obtain ⟨c0, c1, c2, c3, c4, c5, c6⟩ := P0.out.cells
    clear hb hp hm hen mv
    go_enter Try.func36, Try.ntmps36
    go_wp2_with fail
    refine (pvbytes_eq (v := (a, r, bs, ps, y, z)) HD.out _ _ _ (HB.out.below HG.out) (HP.out.below HG.out) MV.out.b MV.out.s MV.out.p n1 n2).mono ?_
    rintro e w1 ⟨rfl, g1⟩
    have G1 := Lib.hid (HG.out.trans (g1.mono (by simp)))
    clear g1 c0 c1 c2 c3 c4 c5 c6
    go_wp2
    go_ret2
    exact ⟨by rw [E.out]; rfl, G1.out⟩
  | true =>
    have hf : Cr.fits (v, x) n = en := (Cr.fits_of (p := (v, x)) hm).trans hen
    have hD := Vt.bytesR_ok hm
    have hvl := Vt.bytes_len hm
    obtain ⟨s, hs⟩ : ∃ s, Vt.bytes v = s := ⟨_, rfl⟩
    rw [hs] at hD hvl
    have HD := Lib.hid hD
    obtain ⟨s1, hs1⟩ : ∃ t, Dg.text s = t := ⟨_, rfl⟩
    obtain ⟨s2, hs2⟩ : ∃ t, Dg.num x = t := ⟨_, rfl⟩
    have E := Lib.hid (show Cr.bytesR (v, x) n = if en = 0 then (s1 ++ s2, 0) else ([], en) by
      by_cases h0 : en = 0
      · rw [if_pos h0, Cr.bytesR_ok (hf.trans h0), Cr.bytes, hs, hs1, hs2]
      · rw [if_neg h0, Cr.bytesR_no (by rw [hf]; exact h0), hf])
    have l1 : s1.length ≤ 100000 := by
      rw [← hs1, Dg.text, List.length_append]
      have := Dg.num_len s.length
      omega
    have l2 : s2.length ≤ 9 := by rw [← hs2]; exact Dg.num_len x
    have HS1 := Lib.hid (text_eq hs1 (by omega))
    have HS2 := Lib.hid (num_eq hs2 hx)
    obtain ⟨a, r, bs, ps, y, z⟩ := v
    simp only [] at hbe hpe HB HP
    subst hbe hpe
    have P0 := Lib.hid (PBox.new w a r (.slice ab bs.length cb) (.slice ap ps.length cp) y z x)
    have HG := Lib.hid (show Below w.heap.size w (w.alloc (.cells #[.int .i64 a, .int .i64 r, .slice ab bs.length cb, .slice ap ps.length cp, .int .i64 y, .int .i64 z, .int .u64 x] 41)) from (Below.refl _ _).alloc (Nat.le_refl _) _)
    obtain ⟨c0, c1, c2, c3, c4, c5, c6⟩ := P0.out.cells
    have e1 := fun W => cat_run s1 s2 (by omega) W
    clear hb hp hm hen mv hf hD hs hs1 hs2
    go_enter Try.func36, Try.ntmps36
    go_wp2_with fail
    refine (pvbytes_eq (v := (a, r, bs, ps, y, z)) HD.out _ _ _ (HB.out.below HG.out) (HP.out.below HG.out) MV.out.b MV.out.s MV.out.p n1 n2).mono ?_
    rintro e w1 ⟨rfl, g1⟩
    have P1 := Lib.hid (P0.out.kept g1)
    have G1 := Lib.hid (HG.out.trans (g1.mono (by simp)))
    clear g1 c0 c1 c2 c3 c4 c5 c6
    obtain ⟨c0, c1, c2, c3, c4, c5, c6⟩ := P1.out.cells
    go_wp2_with fail
    refine (penough_eq HEN.out hx n1 n2 _).mono ?_
    rintro e w2 ⟨rfl, g2⟩
    have P2 := Lib.hid (P1.out.kept g2)
    have G2 := Lib.hid (grow_trans G1.out g2)
    clear g2 c0 c1 c2 c3 c4 c5 c6
    by_cases h0 : en = 0
    · subst h0
      have E2 := Lib.hid (E.out.trans (if_pos rfl))
      obtain ⟨c0, c1, c2, c3, c4, c5, c6⟩ := P2.out.cells
      have hS : (fun w' : World => w'.cell? ⟨w.heap.size, 6, none⟩ = some (.int .u64 x) ∧ Below w.heap.size w w') w2 := ⟨c6, G2.out⟩
      have hk := Lib.hid (show ∀ a' b' : World, (fun w' : World => w'.cell? ⟨w.heap.size, 6, none⟩ = some (.int .u64 x) ∧ Below w.heap.size w w') a' → Below a'.heap.size a' b' → (fun w' : World => w'.cell? ⟨w.heap.size, 6, none⟩ = some (.int .u64 x) ∧ Below w.heap.size w w') b' from fun a' b' ⟨k0, kb⟩ h => ⟨below_cell h k0, grow_trans kb h⟩)
      have ht := Lib.hid (fun W (h : (fun w' : World => w'.cell? ⟨w.heap.size, 6, none⟩ = some (.int .u64 x) ∧ Below w.heap.size w w') W) => keepB (fun w' : World => w'.cell? ⟨w.heap.size, 6, none⟩ = some (.int .u64 x) ∧ Below w.heap.size w w') hk.out (HS1.out W) h)
      have hn := Lib.hid (fun W (h : (fun w' : World => w'.cell? ⟨w.heap.size, 6, none⟩ = some (.int .u64 x) ∧ Below w.heap.size w w') W) => keepB (fun w' : World => w'.cell? ⟨w.heap.size, 6, none⟩ = some (.int .u64 x) ∧ Below w.heap.size w w') hk.out (HS2.out W) h)
      clear c0 c1 c2 c3 c4 c5 c6 P0 P1 P2 HG G1 G2 HB HP HD HEN MV HS1 HS2
      go_wp2_with fail
      go_region_held3 (fun w' : World => w'.cell? ⟨w.heap.size, 6, none⟩ = some (.int .u64 x) ∧ Below w.heap.size w w')
        (first | assumption | exact hk.out _ _ hS (Below.drew (Below.refl _ _)) | exact hk.out _ _ (by assumption) ((Below.refl _ _).alloc (Nat.le_refl _) _))
        (first
          | (go_at_call 71; refine (ht.out _ (by assumption)).mono ?_; rintro e w3 ⟨rfl, kS⟩)
          | (go_at_call 65; refine (hn.out _ (by assumption)).mono ?_; rintro e w3 ⟨rfl, kS⟩))
      all_goals
        go_wp2_with fail
        go_ret2
        exact ⟨by rw [E2.out]; rfl, (show (fun w' : World => w'.cell? ⟨w.heap.size, 6, none⟩ = some (.int .u64 x) ∧ Below w.heap.size w w') _ by assumption).2⟩
    · have t1 : ((en : Int) != 0) = true := by rw [bne_iff_ne]; omega
      have E2 := Lib.hid (E.out.trans (if_neg h0))
      clear h0
      go_wp2
      go_ret2
      exact ⟨by rw [E2.out]; rfl, G2.out⟩
end Go.Proofs.Ytbkpekpajeaacaa
