/- The program's Chained. (Written by gen-cutchainp.py.) -/
import Derived.Test.YtldhkgelifmipaaDoorCutChainR
import Derived.Deep.DeepCutAuto
import Derived.ScopeJumps
namespace Go.Proofs.YtldhkgelifmipaaDoor
open Go.RowKit
/-- Blocks in a slice that has room for them. -/
def BlkCap (w : World) (v : Value) (bs : List Ct.Blk) : Prop := BlkAt w v bs ∧ ∃ a cap, v = .slice a bs.length cap ∧ bs.length ≤ cap
def lenOf : Value → Nat
  | .slice _ l _ => l
  | _ => 0

theorem BlkCap.below {w w' : World} {v : Value} {bs : List Ct.Blk} (h : BlkCap w v bs) (hb : Below w.heap.size w w') : BlkCap w' v bs := ⟨h.1.below hb, h.2⟩
theorem BlkCap.tail {w : World} {b off cap : Nat} {bs : List Ct.Blk} (h : BlkCap w (.slice (some ⟨b, off, none⟩) bs.length cap) bs) (h0 : 0 < bs.length) :
    (cap = 1 → ∀ w', Below w.heap.size w w' → BlkCap w' (.slice (some ⟨b, off, none⟩) 0 0) (bs.drop 1)) ∧ (1 < cap → ∀ w', Below w.heap.size w w' → BlkCap w' (.slice (some ⟨b, off + 3, none⟩) (bs.length - 1) (cap - 1)) (bs.drop 1)) := by
  obtain ⟨⟨cs, hfl, hbs⟩, a, cp, e, hcp⟩ := h
  injection e with _ _ e
  subst e
  match bs, cs, hbs with
  | [], _, _ => exact absurd h0 (by simp)
  | x :: xs, c0 :: c1 :: c2 :: cs', hbs =>
    refine ⟨fun hc w' _ => ?_, fun hc w' hb => ?_⟩
    · simp only [List.length_cons] at hcp
      obtain rfl : xs = [] := List.length_eq_zero_iff.1 (by omega)
      exact ⟨⟨[], .inl ⟨_, _, rfl, rfl⟩, trivial⟩, _, _, rfl, Nat.le_refl _⟩
    · simp only [List.length_cons] at hcp
      refine BlkCap.below (w := w) ⟨⟨cs', ?_, hbs.2.2.2⟩, _, _, rfl, by show xs.length ≤ cap - 1; omega⟩ hb
      rcases hfl with ⟨_, _, _, h⟩ | ⟨b', off', n', cap', e, hl, hcell⟩
      · cases h
      · injection e with e1 e2 e3
        injection e1 with e1
        injection e1 with e4 e5
        subst e4 e5
        have hlen := BlksM.len hbs.2.2.2
        refine .inr ⟨b, off + 3, xs.length, cap - 1, rfl, hlen, fun i hi => ?_⟩
        have := hcell (i + 3) (by simp only [List.length_cons]; omega)
        rw [show off + 3 + i = off + (i + 3) by omega, this]
        rfl

set_option maxHeartbeats 8000000 in
set_option maxRecDepth 100000 in
theorem pcchained (va : Value) (bs : List Ct.Blk) (n0 : Int) (p0 : List UInt8) (w : World) (ha : BlkCap w va bs) (hf : BlkFit bs) (hw : GW w) :
    Calls Tryd.prog 21 #[va, iv n0, tx p0] w fun e w' => e = .returned (.bool (Ct.chained Ct.dig Ct.nxt bs n0 p0)) ∧ Below w.heap.size w w' := by
  obtain ⟨hl, hfa⟩ := hf
  have HA := Lib.hid ha
  clear ha
  have HF := Lib.hid hfa
  have HNO := Lib.hid (Ct.chained_no Ct.dig Ct.nxt bs)
  have HYES := Lib.hid (Ct.chained_yes Ct.dig Ct.nxt bs)
  obtain ⟨r, hr⟩ : ∃ r, Ct.chained Ct.dig Ct.nxt bs n0 p0 = r := ⟨_, rfl⟩
  have HR := Lib.hid (show Ct.chained Ct.dig Ct.nxt (bs.drop 0) n0 p0 = r from hr)
  have HW := Lib.hid hw
  rw [hr]
  clear hfa hr hw
  simp only [iv]
  go_enter Tryd.func21, Tryd.ntmps21
  go_wp2_with fail
  refine wp_scope_jumps 0 (fun a' w' => ∃ (k : Nat) (n : Int) (p : List UInt8) (v : Value) (u7 u8 u9 u10 u11 u12 u13 u14 u15 u16 u17 u18 u19 u20 u21 u22 u23 u24 u25 u26 u27 u28 u29 u30 u31 : Value), a' = { tmps := #[v, .int .i64 n, tx p, undef, undef, undef, .bool false, u7, u8, u9, u10, u11, u12, u13, u14, u15, u16, u17, u18, u19, u20, u21, u22, u23, u24, u25, u26, u27, u28, u29, u30, u31], defers := [] } ∧ k ≤ bs.length ∧ Ct.chained Ct.dig Ct.nxt (bs.drop k) n p = r ∧ BlkCap w' v (bs.drop k) ∧ Below w.heap.size w w') (fun a' _ => lenOf (a'.tmps.getD 0 undef)) rfl ?_ ?_
  · go_wp2_with fail
    go_step3
    obtain ⟨k, hkz⟩ : ∃ k : Nat, k = 0 := ⟨0, rfl⟩
    have hbc : BlkCap w va (bs.drop k) := by rw [hkz]; exact HA.out
    have hcr := Lib.hid (show Ct.chained Ct.dig Ct.nxt (bs.drop k) n0 p0 = r by rw [hkz]; exact HR.out)
    have hbr : Below w.heap.size w w := Below.refl _ _
    have hk : k ≤ bs.length := by omega
    clear HA HR hkz
    by_cases hlk : k < bs.length
    · obtain ⟨hat, aa', cp, rfl, hcp⟩ := hbc
      obtain ⟨L, hL⟩ : ∃ L, (bs.drop k).length = L := ⟨_, rfl⟩
      rcases hat.cells with ⟨h, _⟩ | ⟨_, b, off, cap, e, hc⟩
      · have : (bs.drop k).length = 0 := by rw [h]; rfl
        rw [List.length_drop] at this
        omega
      injection e with e1 _ e2
      subst e1 e2
      have hdl : (bs.drop k).length = bs.length - k := List.length_drop
      obtain ⟨uu, a0, a1, a2, a3⟩ := hc 0 (by omega)
      obtain ⟨f1, f2⟩ := HF.out bs[k] (List.getElem_mem hlk)
      have hno := HNO.out k hlk n0 p0
      have hyes := HYES.out k hlk n0 p0
      have hk0 : (bs.drop k)[0]'(by omega) = bs[k] := by simp
      obtain ⟨nb, pb, lb, hbk⟩ : ∃ n0 p0 l, bs[k] = (n0, p0, l) := ⟨_, _, _, rfl⟩
      simp only [hk0, hbk, iv, Nat.zero_mul, Nat.add_zero] at a0 a1 a2 a3 f1 f2 hno hyes
      have HCT := Lib.hid (BlkCap.tail (⟨hat, _, _, rfl, hcp⟩ : BlkCap w (.slice (some ⟨b, off, none⟩) (bs.drop k).length cp) (bs.drop k)) (by omega))
      rw [List.drop_drop] at HCT
      rw [hL] at hcp HCT ⊢
      clear hc hk0
      have j1 : (0 : Int) < (L : Int) := by omega
      have j4 : ((L : Int) == 0) = false := by rw [beq_eq_false_iff_ne]; omega
      by_cases h1 : nb = n0
      · by_cases h2 : pb = p0
        · have HN := Lib.hid ((hyes h1 h2).symm.trans hcr.out)
          subst h1 h2
          have hdg := Lib.hid (fun W (h : Below w.heap.size w W) => pcdig (nb, pb, lb) uu W (a3.below h) f1 f2 (HW.out.below (grow_trans hbr h)))
          obtain ⟨d, hd⟩ : ∃ d, Ct.dig (nb, pb, lb) = d := ⟨_, rfl⟩
          obtain ⟨m, hm⟩ : ∃ m, IntKind.i64.wrap (nb + 1) = m := ⟨_, rfl⟩
          have HM := Lib.hid (show Ct.nxt nb = m from hm)
          simp only [hd] at hdg HN
          simp only [blkV, iv] at hdg
          have hS : (fun w' : World => w'.cell? ⟨b, off, none⟩ = some (.int .i64 nb) ∧ w'.cell? ⟨b, off + 1, none⟩ = some (tx pb) ∧ w'.cell? ⟨b, off + 2, none⟩ = some uu ∧ Below w.heap.size w w') w := ⟨a0, a1, a2, Below.refl _ _⟩
          have hkp := Lib.hid (show ∀ A1 A2 : World, (fun w' : World => w'.cell? ⟨b, off, none⟩ = some (.int .i64 nb) ∧ w'.cell? ⟨b, off + 1, none⟩ = some (tx pb) ∧ w'.cell? ⟨b, off + 2, none⟩ = some uu ∧ Below w.heap.size w w') A1 → Below A1.heap.size A1 A2 → (fun w' : World => w'.cell? ⟨b, off, none⟩ = some (.int .i64 nb) ∧ w'.cell? ⟨b, off + 1, none⟩ = some (tx pb) ∧ w'.cell? ⟨b, off + 2, none⟩ = some uu ∧ Below w.heap.size w w') A2 from fun A1 A2 ⟨k0, k1, k2, kb⟩ h => ⟨below_cell h k0, below_cell h k1, below_cell h k2, grow_trans kb h⟩)
          clear hno hyes hcr hd a3 f1 f2 hat hbk
          obtain ⟨L', rfl⟩ : ∃ L', L = L' + 1 := ⟨L - 1, by omega⟩
          obtain ⟨cp', rfl⟩ : ∃ cp', cp = cp' + 1 := ⟨cp - 1, by omega⟩
          have g1 : (1 : Int) ≤ (L' : Int) + 1 := by omega
          have g2 : (L' : Int) + 1 ≤ (cp' : Int) + 1 := by omega
          cases cp' with
          | zero =>
            obtain rfl : L' = 0 := by omega
            have HC2 := Lib.hid (HCT.out.1 rfl)
            clear HCT
            go_wp2_with fail
            go_region_held3 (fun w' : World => w'.cell? ⟨b, off, none⟩ = some (.int .i64 nb) ∧ w'.cell? ⟨b, off + 1, none⟩ = some (tx pb) ∧ w'.cell? ⟨b, off + 2, none⟩ = some uu ∧ Below w.heap.size w w')
              (first | assumption | exact hkp.out _ _ hS (Below.drew (Below.refl _ _)))
              (first
                | (go_at_call 17; refine (keepB (fun w' : World => w'.cell? ⟨b, off, none⟩ = some (.int .i64 nb) ∧ w'.cell? ⟨b, off + 1, none⟩ = some (tx pb) ∧ w'.cell? ⟨b, off + 2, none⟩ = some uu ∧ Below w.heap.size w w') hkp.out (hdg.out _ (show (fun w' : World => w'.cell? ⟨b, off, none⟩ = some (.int .i64 nb) ∧ w'.cell? ⟨b, off + 1, none⟩ = some (tx pb) ∧ w'.cell? ⟨b, off + 2, none⟩ = some uu ∧ Below w.heap.size w w') _ by assumption).2.2.2) (by assumption)).mono ?_; rintro e w9 ⟨rfl, kS⟩))
            all_goals go_wp2
            all_goals go_step3
            all_goals refine ⟨rfl, ?_⟩
            all_goals exact ⟨k + 1, m, d, _, _, _, _, _, _, _, _, _, _, _, _, _, _, _, _, _, _, _, _, _, _, _, _, _, _, rfl, hlk, by rw [← HM.out]; exact HN.out, HC2.out _ (show (fun w' : World => w'.cell? ⟨b, off, none⟩ = some (.int .i64 nb) ∧ w'.cell? ⟨b, off + 1, none⟩ = some (tx pb) ∧ w'.cell? ⟨b, off + 2, none⟩ = some uu ∧ Below w.heap.size w w') _ by assumption).2.2.2, grow_trans hbr (show (fun w' : World => w'.cell? ⟨b, off, none⟩ = some (.int .i64 nb) ∧ w'.cell? ⟨b, off + 1, none⟩ = some (tx pb) ∧ w'.cell? ⟨b, off + 2, none⟩ = some uu ∧ Below w.heap.size w w') _ by assumption).2.2.2⟩
          | succ cp' =>
            have HC2 := Lib.hid (HCT.out.2 (by omega))
            have g3 : (L' : Int) + 1 ≤ (cp' : Int) + 1 + 1 := by omega
            clear HCT
            go_wp2_with fail
            go_region_held3 (fun w' : World => w'.cell? ⟨b, off, none⟩ = some (.int .i64 nb) ∧ w'.cell? ⟨b, off + 1, none⟩ = some (tx pb) ∧ w'.cell? ⟨b, off + 2, none⟩ = some uu ∧ Below w.heap.size w w')
              (first | assumption | exact hkp.out _ _ hS (Below.drew (Below.refl _ _)))
              (first
                | (go_at_call 17; refine (keepB (fun w' : World => w'.cell? ⟨b, off, none⟩ = some (.int .i64 nb) ∧ w'.cell? ⟨b, off + 1, none⟩ = some (tx pb) ∧ w'.cell? ⟨b, off + 2, none⟩ = some uu ∧ Below w.heap.size w w') hkp.out (hdg.out _ (show (fun w' : World => w'.cell? ⟨b, off, none⟩ = some (.int .i64 nb) ∧ w'.cell? ⟨b, off + 1, none⟩ = some (tx pb) ∧ w'.cell? ⟨b, off + 2, none⟩ = some uu ∧ Below w.heap.size w w') _ by assumption).2.2.2) (by assumption)).mono ?_; rintro e w9 ⟨rfl, kS⟩))
            all_goals go_wp2
            all_goals go_step3
            all_goals refine ⟨rfl, ?_⟩
            all_goals exact ⟨k + 1, m, d, _, _, _, _, _, _, _, _, _, _, _, _, _, _, _, _, _, _, _, _, _, _, _, _, _, _, rfl, hlk, by rw [← HM.out]; exact HN.out, HC2.out _ (show (fun w' : World => w'.cell? ⟨b, off, none⟩ = some (.int .i64 nb) ∧ w'.cell? ⟨b, off + 1, none⟩ = some (tx pb) ∧ w'.cell? ⟨b, off + 2, none⟩ = some uu ∧ Below w.heap.size w w') _ by assumption).2.2.2, grow_trans hbr (show (fun w' : World => w'.cell? ⟨b, off, none⟩ = some (.int .i64 nb) ∧ w'.cell? ⟨b, off + 1, none⟩ = some (tx pb) ∧ w'.cell? ⟨b, off + 2, none⟩ = some uu ∧ Below w.heap.size w w') _ by assumption).2.2.2⟩
        · have HN := Lib.hid ((hno fun e => h2 e.2).symm.trans hcr.out)
          have g2 : (pb == p0) = false := by simpa using h2
          subst h1
          clear hno hyes hcr h2 a3 f1 f2 hat hbk
          go_wp2_with fail
          simp only [Exit.jump]
          go_ret
          exact ⟨by rw [← HN.out]; rfl, hbr⟩
      · have HN := Lib.hid ((hno fun e => h1 e.1).symm.trans hcr.out)
        have g1 : (nb == n0) = false := by simpa using h1
        have g3 : (nb != n0) = true := by simpa using h1
        clear hno hyes hcr h1 a3 f1 f2 hat hbk
        go_wp2_with fail
        simp only [Exit.jump]
        go_ret
        exact ⟨by rw [← HN.out]; rfl, hbr⟩
    · obtain rfl : k = bs.length := by omega
      have HN := Lib.hid (show r = true by have h := hcr.out; rw [List.drop_length] at h; exact h.symm)
      obtain ⟨_, aa', cp, rfl, _⟩ := hbc
      have hdl : (bs.drop bs.length).length = 0 := by simp
      rw [hdl]
      clear hcr
      go_wp2_with fail
      simp only [Exit.jump]
      go_ret
      exact ⟨by rw [HN.out]; rfl, hbr⟩
  · rintro a' wr ⟨k, n, p, v, u7, u8, u9, u10, u11, u12, u13, u14, u15, u16, u17, u18, u19, u20, u21, u22, u23, u24, u25, u26, u27, u28, u29, u30, u31, rfl, hk, hcr', hbc, hbr⟩
    clear HA HR
    have hcr := Lib.hid hcr'
    clear hcr'
    by_cases hlk : k < bs.length
    · obtain ⟨hat, aa', cp, rfl, hcp⟩ := hbc
      obtain ⟨L, hL⟩ : ∃ L, (bs.drop k).length = L := ⟨_, rfl⟩
      rcases hat.cells with ⟨h, _⟩ | ⟨_, b, off, cap, e, hc⟩
      · have : (bs.drop k).length = 0 := by rw [h]; rfl
        rw [List.length_drop] at this
        omega
      injection e with e1 _ e2
      subst e1 e2
      have hdl : (bs.drop k).length = bs.length - k := List.length_drop
      obtain ⟨uu, a0, a1, a2, a3⟩ := hc 0 (by omega)
      obtain ⟨f1, f2⟩ := HF.out bs[k] (List.getElem_mem hlk)
      have hno := HNO.out k hlk n p
      have hyes := HYES.out k hlk n p
      have hk0 : (bs.drop k)[0]'(by omega) = bs[k] := by simp
      obtain ⟨nb, pb, lb, hbk⟩ : ∃ n p l, bs[k] = (n, p, l) := ⟨_, _, _, rfl⟩
      simp only [hk0, hbk, iv, Nat.zero_mul, Nat.add_zero] at a0 a1 a2 a3 f1 f2 hno hyes
      have HCT := Lib.hid (BlkCap.tail (⟨hat, _, _, rfl, hcp⟩ : BlkCap wr (.slice (some ⟨b, off, none⟩) (bs.drop k).length cp) (bs.drop k)) (by omega))
      rw [List.drop_drop] at HCT
      rw [hL] at hcp HCT ⊢
      clear hc hk0
      have j1 : (0 : Int) < (L : Int) := by omega
      have j4 : ((L : Int) == 0) = false := by rw [beq_eq_false_iff_ne]; omega
      by_cases h1 : nb = n
      · by_cases h2 : pb = p
        · have HN := Lib.hid ((hyes h1 h2).symm.trans hcr.out)
          subst h1 h2
          have hdg := Lib.hid (fun W (h : Below wr.heap.size wr W) => pcdig (nb, pb, lb) uu W (a3.below h) f1 f2 (HW.out.below (grow_trans hbr h)))
          obtain ⟨d, hd⟩ : ∃ d, Ct.dig (nb, pb, lb) = d := ⟨_, rfl⟩
          obtain ⟨m, hm⟩ : ∃ m, IntKind.i64.wrap (nb + 1) = m := ⟨_, rfl⟩
          have HM := Lib.hid (show Ct.nxt nb = m from hm)
          simp only [hd] at hdg HN
          simp only [blkV, iv] at hdg
          have hS : (fun w' : World => w'.cell? ⟨b, off, none⟩ = some (.int .i64 nb) ∧ w'.cell? ⟨b, off + 1, none⟩ = some (tx pb) ∧ w'.cell? ⟨b, off + 2, none⟩ = some uu ∧ Below wr.heap.size wr w') wr := ⟨a0, a1, a2, Below.refl _ _⟩
          have hkp := Lib.hid (show ∀ A1 A2 : World, (fun w' : World => w'.cell? ⟨b, off, none⟩ = some (.int .i64 nb) ∧ w'.cell? ⟨b, off + 1, none⟩ = some (tx pb) ∧ w'.cell? ⟨b, off + 2, none⟩ = some uu ∧ Below wr.heap.size wr w') A1 → Below A1.heap.size A1 A2 → (fun w' : World => w'.cell? ⟨b, off, none⟩ = some (.int .i64 nb) ∧ w'.cell? ⟨b, off + 1, none⟩ = some (tx pb) ∧ w'.cell? ⟨b, off + 2, none⟩ = some uu ∧ Below wr.heap.size wr w') A2 from fun A1 A2 ⟨k0, k1, k2, kb⟩ h => ⟨below_cell h k0, below_cell h k1, below_cell h k2, grow_trans kb h⟩)
          clear hno hyes hcr hd a3 f1 f2 hat hbk
          obtain ⟨L', rfl⟩ : ∃ L', L = L' + 1 := ⟨L - 1, by omega⟩
          obtain ⟨cp', rfl⟩ : ∃ cp', cp = cp' + 1 := ⟨cp - 1, by omega⟩
          have g1 : (1 : Int) ≤ (L' : Int) + 1 := by omega
          have g2 : (L' : Int) + 1 ≤ (cp' : Int) + 1 := by omega
          cases cp' with
          | zero =>
            obtain rfl : L' = 0 := by omega
            have HC2 := Lib.hid (HCT.out.1 rfl)
            clear HCT
            go_wp2_with fail
            go_region_held3 (fun w' : World => w'.cell? ⟨b, off, none⟩ = some (.int .i64 nb) ∧ w'.cell? ⟨b, off + 1, none⟩ = some (tx pb) ∧ w'.cell? ⟨b, off + 2, none⟩ = some uu ∧ Below wr.heap.size wr w')
              (first | assumption | exact hkp.out _ _ hS (Below.drew (Below.refl _ _)))
              (first
                | (go_at_call 17; refine (keepB (fun w' : World => w'.cell? ⟨b, off, none⟩ = some (.int .i64 nb) ∧ w'.cell? ⟨b, off + 1, none⟩ = some (tx pb) ∧ w'.cell? ⟨b, off + 2, none⟩ = some uu ∧ Below wr.heap.size wr w') hkp.out (hdg.out _ (show (fun w' : World => w'.cell? ⟨b, off, none⟩ = some (.int .i64 nb) ∧ w'.cell? ⟨b, off + 1, none⟩ = some (tx pb) ∧ w'.cell? ⟨b, off + 2, none⟩ = some uu ∧ Below wr.heap.size wr w') _ by assumption).2.2.2) (by assumption)).mono ?_; rintro e w9 ⟨rfl, kS⟩))
            all_goals go_wp2
            all_goals go_step3
            all_goals refine ⟨rfl, ?_⟩
            all_goals exact ⟨⟨k + 1, m, d, _, _, _, _, _, _, _, _, _, _, _, _, _, _, _, _, _, _, _, _, _, _, _, _, _, _, rfl, hlk, by rw [← HM.out]; exact HN.out, HC2.out _ (show (fun w' : World => w'.cell? ⟨b, off, none⟩ = some (.int .i64 nb) ∧ w'.cell? ⟨b, off + 1, none⟩ = some (tx pb) ∧ w'.cell? ⟨b, off + 2, none⟩ = some uu ∧ Below wr.heap.size wr w') _ by assumption).2.2.2, grow_trans hbr (show (fun w' : World => w'.cell? ⟨b, off, none⟩ = some (.int .i64 nb) ∧ w'.cell? ⟨b, off + 1, none⟩ = some (tx pb) ∧ w'.cell? ⟨b, off + 2, none⟩ = some uu ∧ Below wr.heap.size wr w') _ by assumption).2.2.2⟩, by show _ < _; simp only [Array.getD, lenOf]; simp⟩
          | succ cp' =>
            have HC2 := Lib.hid (HCT.out.2 (by omega))
            have g3 : (L' : Int) + 1 ≤ (cp' : Int) + 1 + 1 := by omega
            clear HCT
            go_wp2_with fail
            go_region_held3 (fun w' : World => w'.cell? ⟨b, off, none⟩ = some (.int .i64 nb) ∧ w'.cell? ⟨b, off + 1, none⟩ = some (tx pb) ∧ w'.cell? ⟨b, off + 2, none⟩ = some uu ∧ Below wr.heap.size wr w')
              (first | assumption | exact hkp.out _ _ hS (Below.drew (Below.refl _ _)))
              (first
                | (go_at_call 17; refine (keepB (fun w' : World => w'.cell? ⟨b, off, none⟩ = some (.int .i64 nb) ∧ w'.cell? ⟨b, off + 1, none⟩ = some (tx pb) ∧ w'.cell? ⟨b, off + 2, none⟩ = some uu ∧ Below wr.heap.size wr w') hkp.out (hdg.out _ (show (fun w' : World => w'.cell? ⟨b, off, none⟩ = some (.int .i64 nb) ∧ w'.cell? ⟨b, off + 1, none⟩ = some (tx pb) ∧ w'.cell? ⟨b, off + 2, none⟩ = some uu ∧ Below wr.heap.size wr w') _ by assumption).2.2.2) (by assumption)).mono ?_; rintro e w9 ⟨rfl, kS⟩))
            all_goals go_wp2
            all_goals go_step3
            all_goals refine ⟨rfl, ?_⟩
            all_goals exact ⟨⟨k + 1, m, d, _, _, _, _, _, _, _, _, _, _, _, _, _, _, _, _, _, _, _, _, _, _, _, _, _, _, rfl, hlk, by rw [← HM.out]; exact HN.out, HC2.out _ (show (fun w' : World => w'.cell? ⟨b, off, none⟩ = some (.int .i64 nb) ∧ w'.cell? ⟨b, off + 1, none⟩ = some (tx pb) ∧ w'.cell? ⟨b, off + 2, none⟩ = some uu ∧ Below wr.heap.size wr w') _ by assumption).2.2.2, grow_trans hbr (show (fun w' : World => w'.cell? ⟨b, off, none⟩ = some (.int .i64 nb) ∧ w'.cell? ⟨b, off + 1, none⟩ = some (tx pb) ∧ w'.cell? ⟨b, off + 2, none⟩ = some uu ∧ Below wr.heap.size wr w') _ by assumption).2.2.2⟩, by show _ < _; simp only [Array.getD, lenOf]; simp⟩
        · have HN := Lib.hid ((hno fun e => h2 e.2).symm.trans hcr.out)
          have g2 : (pb == p) = false := by simpa using h2
          subst h1
          clear hno hyes hcr h2 a3 f1 f2 hat hbk
          go_wp2_with fail
          simp only [Exit.jump]
          go_ret
          exact ⟨by rw [← HN.out]; rfl, hbr⟩
      · have HN := Lib.hid ((hno fun e => h1 e.1).symm.trans hcr.out)
        have g1 : (nb == n) = false := by simpa using h1
        have g3 : (nb != n) = true := by simpa using h1
        clear hno hyes hcr h1 a3 f1 f2 hat hbk
        go_wp2_with fail
        simp only [Exit.jump]
        go_ret
        exact ⟨by rw [← HN.out]; rfl, hbr⟩
    · obtain rfl : k = bs.length := by omega
      have HN := Lib.hid (show r = true by have h := hcr.out; rw [List.drop_length] at h; exact h.symm)
      obtain ⟨_, aa', cp, rfl, _⟩ := hbc
      have hdl : (bs.drop bs.length).length = 0 := by simp
      rw [hdl]
      clear hcr
      go_wp2_with fail
      simp only [Exit.jump]
      go_ret
      exact ⟨by rw [HN.out]; rfl, hbr⟩
end Go.Proofs.YtldhkgelifmipaaDoor
