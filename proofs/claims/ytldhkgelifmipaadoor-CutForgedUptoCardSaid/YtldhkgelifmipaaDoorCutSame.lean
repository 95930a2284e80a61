/- The document's Blocks and Same, where both are the same. -/
import Derived.Test.YtldhkgelifmipaaDoorCutFeed
import Derived.Test.YtldhkgelifmipaaDoorKeep
import Derived.Test.YtldhkgelifmipaaDoorDigSame
namespace Go.Proofs.YtldhkgelifmipaaDoor
open Go.RowKit

theorem rsame_self (va vb : Value) (a : List (List UInt8)) (w : World) (ha : TxAt w va a) (hb : TxAt w vb a) (la : a.length ≤ 140737488351232) :
    Calls Tryd.prog 24 #[va, vb] w fun e w' => e = .returned (.bool true) ∧ Below w.heap.size w w' := by
  refine (same_any va vb a a w ha hb la).mono ?_
  rintro e w' ⟨rfl, n, rfl⟩
  exact ⟨by rw [beq_self_eq_true], grow_draws _ _⟩

set_option maxHeartbeats 4000000 in
theorem rcsame (c : Ct.Blk) (ua ub : Value) (w : World) (ha : TxAt w ua c.2.2) (hb : TxAt w ub c.2.2) (hl : c.2.2.length ≤ 1099511627776) :
    Calls Tryd.prog 15 #[blkV c ua, blkV c ub] w fun e w' => e = .returned (.bool true) ∧ Below w.heap.size w w' := by
  obtain ⟨n, p, ls⟩ := c
  simp only at ha hb hl
  obtain ⟨aa, ca, rfl⟩ := ha.len
  obtain ⟨ab, cb, rfl⟩ := hb.len
  obtain ⟨C, hC⟩ : ∃ C, w.heap.size = C := ⟨_, rfl⟩
  obtain ⟨R, hR⟩ : ∃ R, C + 1 = R := ⟨_, rfl⟩
  obtain ⟨w0, hw0⟩ : ∃ w0, (w.alloc (.cells #[iv n, tx p, .slice aa ls.length ca] 24)).alloc (.cells #[iv n, tx p, .slice ab ls.length cb] 24) = w0 := ⟨_, rfl⟩
  have g0 : Below w.heap.size w w0 := by rw [← hw0]; exact ((Below.refl _ _).alloc (Nat.le_refl _) _).alloc (by simp) _
  have kc : KBox w0 C 24 (.int .i64 n) (tx p) (.slice aa ls.length ca) := by
    rw [← hw0, ← hC]
    exact (KBox.new w 24 (.int .i64 n) (tx p) (.slice aa ls.length ca)).alloc _
  have kr : KBox w0 R 24 (.int .i64 n) (tx p) (.slice ab ls.length cb) := by
    have h := KBox.new (w.alloc (.cells #[iv n, tx p, .slice aa ls.length ca] 24)) 24 (.int .i64 n) (tx p) (.slice ab ls.length cb)
    have e : (w.alloc (.cells #[iv n, tx p, .slice aa ls.length ca] 24)).heap.size = R := by simp; omega
    rw [e] at h
    rw [← hw0]
    exact h
  have hs := Lib.hid (rsame_self _ _ ls w0 (ha.below g0) (hb.below g0) (by omega))
  have HG := Lib.hid g0
  obtain ⟨c0, c1, c2⟩ := kc.cells
  obtain ⟨r0, r1, r2⟩ := kr.cells
  clear ha hb g0
  go_enter Tryd.func15, Tryd.ntmps15
  go_wp2_with fail
  refine hs.out.mono ?_
  rintro e w1 ⟨rfl, h1⟩
  obtain ⟨d0, d1, d2⟩ := (kc.kept h1).cells
  obtain ⟨s0, s1, s2⟩ := (kr.kept h1).cells
  have HB := Lib.hid (grow_trans HG.out h1)
  clear kc kr c0 c1 c2 r0 r1 r2 hs HG h1 hw0
  go_wp2_with fail
  go_ret
  exact ⟨rfl, HB.out⟩

set_option maxHeartbeats 8000000 in
set_option maxRecDepth 100000 in
theorem rcblocks (va vb : Value) (bs : List Ct.Blk) (w : World) (ha : BlkAt w va bs) (hb : BlkAt w vb bs) (hl : bs.length ≤ 1099511627776) (hlt : ∀ b ∈ bs, b.2.2.length ≤ 1099511627776) :
    Calls Tryd.prog 16 #[va, vb] w fun e w' => e = .returned (.bool true) ∧ Below w.heap.size w w' := by
  obtain ⟨aa, ca, rfl⟩ := ha.len
  obtain ⟨ab, cb, rfl⟩ := hb.len
  have HA := Lib.hid ha
  have HB := Lib.hid hb
  have HLT := Lib.hid hlt
  clear ha hb hlt
  go_enter Tryd.func16, Tryd.ntmps16
  go_wp2_with fail
  go_loopw [5, 6] (fun i s wr => ∃ k : Nat, i = .int .i64 k ∧ k ≤ bs.length ∧ Below w.heap.size w wr) (fun i _ _ => bs.length - (intOf i).toNat)
  case atStart => exact ⟨0, rfl, by omega, Below.refl _ _⟩
  case round =>
    obtain ⟨k, rfl, hk, hbr⟩ := hrel
    have HBR := Lib.hid hbr
    by_cases hlk : k < bs.length
    · rcases HA.out.cells with ⟨h, _⟩ | ⟨_, b, off, cap, e, hc⟩
      · rw [h] at hlk
        exact absurd hlk (by simp)
      rcases HB.out.cells with ⟨h, _⟩ | ⟨_, b', off', cap', e', hc'⟩
      · rw [h] at hlk
        exact absurd hlk (by simp)
      injection e with e1 _ e2
      subst e1 e2
      injection e' with e1 _ e2
      subst e1 e2
      obtain ⟨u, a0, a1, a2, a3⟩ := hc k hlk
      obtain ⟨u', b0, b1, b2, b3⟩ := hc' k hlk
      have hll := HLT.out bs[k] (List.getElem_mem hlk)
      obtain ⟨nb, pb, lb, hbk⟩ : ∃ n p l, bs[k] = (n, p, l) := ⟨_, _, _, rfl⟩
      simp only [hbk, iv] at a0 a1 a3 b0 b1 b3 hll
      have A0 := below_cell hbr a0
      have A1 := below_cell hbr a1
      have A2 := below_cell hbr a2
      have B0 := below_cell hbr b0
      have B1 := below_cell hbr b1
      have B2 := below_cell hbr b2
      have hsm := Lib.hid (fun W (h : Below wr.heap.size wr W) => rsame_self u u' lb W ((a3.below hbr).below h) ((b3.below hbr).below h) (by omega))
      have hS : (fun w' : World => w'.cell? ⟨b, off + k * 3 + 2, none⟩ = some u ∧ w'.cell? ⟨b', off' + k * 3 + 2, none⟩ = some u' ∧ Below wr.heap.size wr w') wr := ⟨A2, B2, Below.refl _ _⟩
      have hkp := Lib.hid (show ∀ X Y : World, (fun w' : World => w'.cell? ⟨b, off + k * 3 + 2, none⟩ = some u ∧ w'.cell? ⟨b', off' + k * 3 + 2, none⟩ = some u' ∧ Below wr.heap.size wr w') X → Below X.heap.size X Y → (fun w' : World => w'.cell? ⟨b, off + k * 3 + 2, none⟩ = some u ∧ w'.cell? ⟨b', off' + k * 3 + 2, none⟩ = some u' ∧ Below wr.heap.size wr w') Y from fun X Y ⟨k0, k1, kb⟩ h => ⟨below_cell h k0, below_cell h k1, grow_trans kb h⟩)
      have j1 : (k : Int) < (bs.length : Int) := by omega
      have j2 : (0 : Int) ≤ (k : Int) := by omega
      have j3 : (k : Int).toNat = k := by omega
      have D0 := Lib.hid A0
      have D1 := Lib.hid A1
      have D2 := Lib.hid B0
      have D3 := Lib.hid B1
      clear hc hc' a0 a1 a2 a3 b0 b1 b2 b3 hll hbk A0 A1 A2 B0 B1 B2
      go_wp2_with fail
      go_region_held3 (fun w' : World => w'.cell? ⟨b, off + k * 3 + 2, none⟩ = some u ∧ w'.cell? ⟨b', off' + k * 3 + 2, none⟩ = some u' ∧ Below wr.heap.size wr w')
        (first | assumption | exact hkp.out _ _ hS (Below.drew (Below.refl _ _)))
        (first
          | (go_at_call 24; refine (keepB (fun w' : World => w'.cell? ⟨b, off + k * 3 + 2, none⟩ = some u ∧ w'.cell? ⟨b', off' + k * 3 + 2, none⟩ = some u' ∧ Below wr.heap.size wr w') hkp.out (hsm.out _ (show (fun w' : World => w'.cell? ⟨b, off + k * 3 + 2, none⟩ = some u ∧ w'.cell? ⟨b', off' + k * 3 + 2, none⟩ = some u' ∧ Below wr.heap.size wr w') _ by assumption).2.2) (by assumption)).mono ?_; rintro e w9 ⟨rfl, kS⟩))
      obtain ⟨_, _, h9⟩ := (show (fun w' : World => w'.cell? ⟨b, off + k * 3 + 2, none⟩ = some u ∧ w'.cell? ⟨b', off' + k * 3 + 2, none⟩ = some u' ∧ Below wr.heap.size wr w') _ by assumption)
      have A0 := below_cell h9 D0.out
      have A1 := below_cell h9 D1.out
      have B0 := below_cell h9 D2.out
      have B1 := below_cell h9 D3.out
      have HB9 := Lib.hid (grow_trans hbr h9)
      clear hS hkp hsm HBR hbr h9 D0 D1 D2 D3
      go_wp2_with fail
      go_quiet (fail)
      generalize hw10 : World.drewN _ _ = w10
      have HB10 := Lib.hid (show Below w.heap.size w w10 by rw [← hw10]; exact grow_trans HB9.out (grow_draws _ _))
      clear hw10
      go_wp2
      go_roundw
      case rel => exact ⟨k + 1, by go_num, hlk, HB10.out⟩
      case measure => simp [intOf]; omega
    · obtain rfl : k = bs.length := by omega
      go_wp2_with fail
      go_ret
      exact ⟨rfl, hbr⟩
end Go.Proofs.YtldhkgelifmipaaDoor
