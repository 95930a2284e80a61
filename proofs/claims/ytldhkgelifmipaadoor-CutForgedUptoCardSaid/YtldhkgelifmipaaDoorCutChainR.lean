/- The document's Chained. (Written by gen-cutchainr.py.) -/
import Derived.Test.YtldhkgelifmipaaDoorCutSame
namespace Ct
theorem chained_at (D : Blk → Tx) (N : Int → Int) (bs : List Blk) (k : Nat) (h : k < bs.length) (n : Int) (p : Tx) : chained D N (bs.drop k) n p = (decide (bs[k].1 = n) && decide (bs[k].2.1 = p) && chained D N (bs.drop (k + 1)) (N n) (D bs[k])) := by
  rw [List.drop_eq_getElem_cons h, chained]
theorem chained_no (D : Blk → Tx) (N : Int → Int) (bs : List Blk) (k : Nat) (h : k < bs.length) (n : Int) (p : Tx) (hn : ¬ (bs[k].1 = n ∧ bs[k].2.1 = p)) : chained D N (bs.drop k) n p = false := by
  rw [chained_at D N bs k h]
  by_cases h1 : bs[k].1 = n
  · have h2 : ¬ bs[k].2.1 = p := fun e => hn ⟨h1, e⟩
    simp [h2]
  · simp [h1]
theorem chained_yes (D : Blk → Tx) (N : Int → Int) (bs : List Blk) (k : Nat) (h : k < bs.length) (n : Int) (p : Tx) (h1 : bs[k].1 = n) (h2 : bs[k].2.1 = p) : chained D N (bs.drop k) n p = chained D N (bs.drop (k + 1)) (N n) (D bs[k]) := by
  rw [chained_at D N bs k h]
  simp [h1, h2]
end Ct
namespace Go.Proofs.YtldhkgelifmipaaDoor
open Go.RowKit
def BlkFit (bs : List Ct.Blk) : Prop := bs.length ≤ 1099511627776 ∧ ∀ b ∈ bs, CutFit b ∧ b.1 ≤ 9223372036854775807

set_option maxHeartbeats 8000000 in
set_option maxRecDepth 100000 in
theorem rcchained (va : Value) (bs : List Ct.Blk) (n0 : Int) (p0 : List UInt8) (w : World) (ha : BlkAt w va bs) (hf : BlkFit bs) :
    Calls Tryd.prog 22 #[va, iv n0, tx p0] w fun e w' => e = .returned (.bool (Ct.chained Ct.dig Ct.nxt bs n0 p0)) ∧ Below w.heap.size w w' := by
  obtain ⟨hl, hfa⟩ := hf
  obtain ⟨aa, ca, rfl⟩ := ha.len
  have HA := Lib.hid ha
  have HF := Lib.hid hfa
  have HNO := Lib.hid (Ct.chained_no Ct.dig Ct.nxt bs)
  have HYES := Lib.hid (Ct.chained_yes Ct.dig Ct.nxt bs)
  obtain ⟨r, hr⟩ : ∃ r, Ct.chained Ct.dig Ct.nxt bs n0 p0 = r := ⟨_, rfl⟩
  have HR := Lib.hid (show Ct.chained Ct.dig Ct.nxt (bs.drop 0) n0 p0 = r from hr)
  rw [hr]
  clear ha hfa hr
  simp only [iv]
  go_enter Tryd.func22, Tryd.ntmps22
  go_wp2_with fail
  go_loopw [1, 2, 7] (fun nn pp i wr => ∃ (k : Nat) (n : Int) (p : List UInt8), i = .int .i64 k ∧ nn = .int .i64 n ∧ pp = tx p ∧ k ≤ bs.length ∧ Ct.chained Ct.dig Ct.nxt (bs.drop k) n p = r ∧ Below w.heap.size w wr) (fun _ _ i _ => bs.length - (intOf i).toNat)
  case atStart => exact ⟨0, n0, p0, rfl, rfl, rfl, by omega, HR.out, Below.refl _ _⟩
  case round =>
    clear HR
    obtain ⟨k, n, p, rfl, rfl, rfl, hk, hcr', hbr⟩ := hrel
    have hcr := Lib.hid hcr'
    clear hcr'
    by_cases hlk : k < bs.length
    · rcases HA.out.cells with ⟨h, _⟩ | ⟨_, b, off, cap, e, hc⟩
      · rw [h] at hlk
        exact absurd hlk (by simp)
      injection e with e1 _ e2
      subst e1 e2
      obtain ⟨u, a0, a1, a2, a3⟩ := hc k hlk
      obtain ⟨f1, f2⟩ := HF.out bs[k] (List.getElem_mem hlk)
      have hno := HNO.out k hlk n p
      have hyes := HYES.out k hlk n p
      obtain ⟨nb, pb, lb, hbk⟩ : ∃ n p l, bs[k] = (n, p, l) := ⟨_, _, _, rfl⟩
      simp only [hbk, iv] at a0 a1 a3 f1 f2 hno hyes
      have A0 := below_cell hbr a0
      have A1 := below_cell hbr a1
      have A2 := below_cell hbr a2
      have hdg := Lib.hid (rcdig (nb, pb, lb) u wr (a3.below hbr) f1 f2)
      have j1 : (k : Int) < (bs.length : Int) := by omega
      have j2 : (0 : Int) ≤ (k : Int) := by omega
      have j3 : (k : Int).toNat = k := by omega
      clear hc a0 a1 a2 a3 f1 f2 hbk
      by_cases h1 : nb = n
      · by_cases h2 : pb = p
        · have HN := Lib.hid ((hyes h1 h2).symm.trans hcr.out)
          subst h1 h2
          have HB := Lib.hid hbr
          obtain ⟨d, hd⟩ : ∃ d, Ct.dig (nb, pb, lb) = d := ⟨_, rfl⟩
          obtain ⟨m, hm⟩ : ∃ m, IntKind.i64.wrap (nb + 1) = m := ⟨_, rfl⟩
          have HM := Lib.hid (show Ct.nxt nb = m from hm)
          simp only [hd] at hdg HN
          simp only [blkV, iv] at hdg
          clear hno hyes hcr hd
          go_wp2_with fail
          refine hdg.out.mono ?_
          rintro e w9 ⟨rfl, h9⟩
          have HB9 := Lib.hid (grow_trans HB.out h9)
          clear h9 hdg hbr HB A0 A1 A2
          go_wp2_with fail
          go_roundw
          case rel => exact ⟨k + 1, m, d, by go_num, rfl, rfl, hlk, by rw [← HM.out]; exact HN.out, HB9.out⟩
          case measure => simp [intOf]; omega
        · have HN := Lib.hid ((hno fun e => h2 e.2).symm.trans hcr.out)
          have g2 : (pb == p) = false := by simpa using h2
          subst h1
          clear hno hyes hcr hdg h2
          go_wp2_with fail
          go_ret
          exact ⟨by rw [← HN.out]; rfl, hbr⟩
      · have HN := Lib.hid ((hno fun e => h1 e.1).symm.trans hcr.out)
        have g1 : (nb == n) = false := by simpa using h1
        have g3 : (nb != n) = true := by simpa using h1
        clear hno hyes hcr hdg h1
        go_wp2_with fail
        go_ret
        exact ⟨by rw [← HN.out]; rfl, hbr⟩
    · obtain rfl : k = bs.length := by omega
      have HN := Lib.hid (show r = true by have h := hcr.out; rw [List.drop_length] at h; exact h.symm)
      clear hcr
      go_wp2_with fail
      go_ret
      exact ⟨by rw [HN.out]; rfl, hbr⟩
end Go.Proofs.YtldhkgelifmipaaDoor
