/- Package post as it landed: Header, Proof. -/
import Derived.Test.YtbkpekpajeaacaaPostB
import Derived.Test.YtbkpekpajeaacaaCrTake
namespace Po
theorem lettered_ok {c : UInt8} {s : List UInt8} : lettered c (s, 0) = (c :: s, 0) := rfl
theorem lettered_no {c : UInt8} {s : List UInt8} {e : Nat} (h : e ≠ 0) : lettered c (s, e) = ([], e) := by rw [lettered, if_neg h]
theorem lettered_or (c : UInt8) (R : List UInt8 × Nat) : ((lettered c R).2 = 0 ∧ (kind (lettered c R).1).toNat = c.toNat) ∨ (lettered c R).2 ≠ 0 := by
  by_cases h : R.2 = 0
  · left; rw [lettered, if_pos h]; exact ⟨rfl, rfl⟩
  · right; rw [lettered, if_neg h]; exact h
theorem sayR_or (s : S) : ((sayR s).2 = 0 ∧ (kind (sayR s).1).toNat = 121) ∨ (sayR s).2 ≠ 0 := by
  unfold sayR; split
  · left; exact ⟨rfl, rfl⟩
  · right; simp
theorem ballotR_or (a r : Int) (d : List UInt8) : ((ballotR a r d).2 = 0 ∧ (kind (ballotR a r d).1).toNat = 118) ∨ (ballotR a r d).2 ≠ 0 := by
  unfold ballotR; split
  · left; exact ⟨rfl, rfl⟩
  · right; simp
end Po
namespace Go.Proofs.Ytbkpekpajeaacaa
open Go.RowKit
set_option maxRecDepth 100000
attribute [local go_sem] ByteArray.mk_append_mk
theorem cr_bytes_len {p : Cr.Prf} {n : Int} {s : List UInt8} {e : Nat} (h : Cr.bytesR p n = (s, e)) : s.length ≤ 100000 := by
  by_cases hf : Cr.fits p n = 0
  · rw [Cr.bytesR_ok hf] at h; injection h with h1 h2; rw [← h1]; have := Cr.bytes_len hf; omega
  · rw [Cr.bytesR_no hf] at h; injection h with h1 h2; rw [← h1]; simp
theorem vt_bytes_len {v : Vt.Vtx} {n : Int} {s : List UInt8} {e : Nat} (h : Vt.bytesR v n = (s, e)) : s.length ≤ 100000 := by
  cases hm : Vt.may v n with
  | true => rw [Vt.bytesR_ok hm] at h; injection h with h1 h2; rw [← h1]; have := Vt.bytes_len hm; omega
  | false => rw [Vt.bytesR_no hm] at h; injection h with h1 h2; rw [← h1]; simp
theorem pcbytes_eqP {n : Int} {p : Cr.Prf} {R : List UInt8 × Nat} (h : Cr.bytesR p n = R) (bv pv : Value) (w : World) (hb : BtsAt w bv p.1.2.2.1) (hp : TxAt w pv p.1.2.2.2.1) (mv : Vt.Mod p.1) (hx : p.2 < 18446744073709551616) (n1 : -9223372036854775808 ≤ n) (n2 : n ≤ 9223372036854775807) :
    Calls Try.prog 36 #[prfV p.1.1 p.1.2.1 bv pv p.1.2.2.2.2.1 p.1.2.2.2.2.2 p.2, .int .i64 n] w fun e w' => e = .returned (.tuple #[tx R.1, .int .i64 R.2]) ∧ Below w.heap.size w w' :=
  h ▸ pcbytes n p bv pv w hb hp mv hx n1 n2

set_option maxHeartbeats 2000000 in
theorem pheaderV (v : Vt.Vtx) (bv pv : Value) (n : Int) (w : World) (hb : BtsAt w bv v.2.2.1) (hp : TxAt w pv v.2.2.2.1) (mv : Vt.Mod v) (n1 : -9223372036854775808 ≤ n) (n2 : n ≤ 9223372036854775807) :
    Calls Try.prog 10 #[vtxV v.1 v.2.1 bv pv v.2.2.2.2.1 v.2.2.2.2.2, .int .i64 n] w fun e w' => e = .returned (.tuple #[tx (Po.lettered 104 (Vt.bytesR v n)).1, .int .i64 (Po.lettered 104 (Vt.bytesR v n)).2]) ∧ Below w.heap.size w w' := by
  obtain ⟨⟨s, en⟩, hR⟩ : ∃ R, Vt.bytesR v n = R := ⟨_, rfl⟩
  have hsl := vt_bytes_len hR
  rw [hR]
  have H := Lib.hid (fun w hb hp => pvbytes_eq hR bv pv w hb hp mv.b mv.s mv.p n1 n2)
  obtain ⟨a, r, bs, ps, x, y⟩ := v
  simp only [] at hb hp
  have HB := Lib.hid hb
  have HP := Lib.hid hp
  obtain ⟨m1, m2, rfl⟩ := hb.len
  obtain ⟨m3, m4, rfl⟩ := hp.len
  have A0 := Lib.hid (VBox.new w a r (.slice m1 bs.length m2) (.slice m3 ps.length m4) x y)
  have HG := Lib.hid (show Below w.heap.size w (w.alloc (.cells #[.int .i64 a, .int .i64 r, .slice m1 bs.length m2, .slice m3 ps.length m4, .int .i64 x, .int .i64 y] 27)) from (Below.refl _ _).alloc (Nat.le_refl _) _)
  obtain ⟨c0, c1, c2, c3, c4, c5⟩ := A0.out.cells
  clear hb hp hR
  by_cases h0 : en = 0
  · subst h0
    rw [Po.lettered_ok]
    go_enter Try.func10, Try.ntmps10
    go_wp2_with fail
    refine (H.out _ (HB.out.below HG.out) (HP.out.below HG.out)).mono ?_
    rintro e w1 ⟨rfl, g1⟩
    have G1 := Lib.hid (HG.out.trans (g1.mono (by simp)))
    clear g1 c0 c1 c2 c3 c4 c5
    go_wp2_with fail
    refine (pletter104 s (by omega) _).mono ?_
    rintro e w2 ⟨rfl, rfl⟩
    go_wp2
    go_ret2
    exact ⟨rfl, G1.out⟩
  · rw [Po.lettered_no h0]
    go_enter Try.func10, Try.ntmps10
    go_wp2_with fail
    refine (H.out _ (HB.out.below HG.out) (HP.out.below HG.out)).mono ?_
    rintro e w1 ⟨rfl, g1⟩
    have G1 := Lib.hid (HG.out.trans (g1.mono (by simp)))
    clear g1 c0 c1 c2 c3 c4 c5
    go_wp2_with fail
    refine (pletterE _ s en h0 _).mono ?_
    rintro e w2 ⟨rfl, rfl⟩
    go_wp2
    go_ret2
    exact ⟨rfl, G1.out⟩

set_option maxHeartbeats 2000000 in
theorem pproofP (p : Cr.Prf) (bv pv : Value) (n : Int) (w : World) (hb : BtsAt w bv p.1.2.2.1) (hp : TxAt w pv p.1.2.2.2.1) (mv : Vt.Mod p.1) (hx : p.2 < 18446744073709551616) (n1 : -9223372036854775808 ≤ n) (n2 : n ≤ 9223372036854775807) :
    Calls Try.prog 12 #[prfV p.1.1 p.1.2.1 bv pv p.1.2.2.2.2.1 p.1.2.2.2.2.2 p.2, .int .i64 n] w fun e w' => e = .returned (.tuple #[tx (Po.lettered 99 (Cr.bytesR p n)).1, .int .i64 (Po.lettered 99 (Cr.bytesR p n)).2]) ∧ Below w.heap.size w w' := by
  obtain ⟨⟨s, en⟩, hR⟩ : ∃ R, Cr.bytesR p n = R := ⟨_, rfl⟩
  have hsl := cr_bytes_len hR
  rw [hR]
  have H := Lib.hid (fun w hb hp => pcbytes_eqP hR bv pv w hb hp mv hx n1 n2)
  obtain ⟨⟨a, r, bs, ps, x, y⟩, c⟩ := p
  simp only [] at hb hp
  have HB := Lib.hid hb
  have HP := Lib.hid hp
  obtain ⟨m1, m2, rfl⟩ := hb.len
  obtain ⟨m3, m4, rfl⟩ := hp.len
  have A0 := Lib.hid (PBox.new w a r (.slice m1 bs.length m2) (.slice m3 ps.length m4) x y c)
  have HG := Lib.hid (show Below w.heap.size w (w.alloc (.cells #[.int .i64 a, .int .i64 r, .slice m1 bs.length m2, .slice m3 ps.length m4, .int .i64 x, .int .i64 y, .int .u64 c] 41)) from (Below.refl _ _).alloc (Nat.le_refl _) _)
  obtain ⟨c0, c1, c2, c3, c4, c5, c6⟩ := A0.out.cells
  clear hb hp hR
  by_cases h0 : en = 0
  · subst h0
    rw [Po.lettered_ok]
    go_enter Try.func12, Try.ntmps12
    go_wp2_with fail
    refine (H.out _ (HB.out.below HG.out) (HP.out.below HG.out)).mono ?_
    rintro e w1 ⟨rfl, g1⟩
    have G1 := Lib.hid (HG.out.trans (g1.mono (by simp)))
    clear g1 c0 c1 c2 c3 c4 c5 c6
    go_wp2_with fail
    refine (pletter99 s (by omega) _).mono ?_
    rintro e w2 ⟨rfl, rfl⟩
    go_wp2
    go_ret2
    exact ⟨rfl, G1.out⟩
  · rw [Po.lettered_no h0]
    go_enter Try.func12, Try.ntmps12
    go_wp2_with fail
    refine (H.out _ (HB.out.below HG.out) (HP.out.below HG.out)).mono ?_
    rintro e w1 ⟨rfl, g1⟩
    have G1 := Lib.hid (HG.out.trans (g1.mono (by simp)))
    clear g1 c0 c1 c2 c3 c4 c5 c6
    go_wp2_with fail
    refine (pletterE _ s en h0 _).mono ?_
    rintro e w2 ⟨rfl, rfl⟩
    go_wp2
    go_ret2
    exact ⟨rfl, G1.out⟩
end Go.Proofs.Ytbkpekpajeaacaa
