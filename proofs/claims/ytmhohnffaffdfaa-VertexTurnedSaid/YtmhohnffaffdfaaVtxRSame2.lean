/- The document's Same of vertices; the contracts as equations. -/
import Derived.Test.YtmhohnffaffdfaaVtxRSame
namespace Go.Proofs.Ytmhohnffaffdfaa
open Go.RowKit
set_option maxRecDepth 100000
attribute [local go_sem] eq_el guard_el

theorem rsameAll_eq {a b : List Bt.Bat} {z : Bool} (h : (a == b) = z) (va vb : Value) (w : World) (ha : BtsAt w va a) (hb : BtsAt w vb b) (la : a.length ≤ 140737488351232) (hs : Vt.Small a) :
    Calls Try.prog 21 #[va, vb] w fun e w' => e = .returned (.bool z) ∧ Below w.heap.size w w' := by subst h; exact rsameAll va vb a b w ha hb la hs
theorem rsameT_eq {a b : List (List UInt8)} {z : Bool} (h : (a == b) = z) (va vb : Value) (w : World) (ha : TxAt w va a) (hb : TxAt w vb b) (la : a.length ≤ 140737488351232) :
    Calls Try.prog 20 #[va, vb] w fun e w' => e = .returned (.bool z) ∧ Below w.heap.size w w' := by
  subst h; exact (same_any va vb a b w ha hb la).mono fun e w' ⟨he, n, hw⟩ => ⟨he, by rw [hw]; exact grow_draws _ _⟩
theorem vt_beq (u v : Vt.Vtx) : (u == v) = ((u.1 == v.1) && ((u.2.1 == v.2.1) && ((u.2.2.1 == v.2.2.1) && ((u.2.2.2.1 == v.2.2.2.1) && ((u.2.2.2.2.1 == v.2.2.2.2.1) && (u.2.2.2.2.2 == v.2.2.2.2.2)))))) := rfl

set_option maxHeartbeats 4000000 in
theorem rvsame (u v : Vt.Vtx) (bu pu bv pv : Value) (w : World) (hbu : BtsAt w bu u.2.2.1) (hpu : TxAt w pu u.2.2.2.1) (hbv : BtsAt w bv v.2.2.1) (hpv : TxAt w pv v.2.2.2.1) (lb : u.2.2.1.length ≤ 140737488351232) (hs : Vt.Small u.2.2.1) (lp : u.2.2.2.1.length ≤ 140737488351232) :
    Calls Try.prog 10 #[vtxV u.1 u.2.1 bu pu u.2.2.2.2.1 u.2.2.2.2.2, vtxV v.1 v.2.1 bv pv v.2.2.2.2.1 v.2.2.2.2.2] w fun e w' => e = .returned (.bool (u == v)) ∧ Below w.heap.size w w' := by
  rw [vt_beq]
  obtain ⟨a, r, bs, ps, x, y⟩ := u
  obtain ⟨a', r', bs', ps', x', y'⟩ := v
  simp only [] at hbu hpu hbv hpv lb hs lp ⊢
  have A0 := Lib.hid ((VBox.new w a r bu pu x y).alloc (.cells #[.int .i64 a', .int .i64 r', bv, pv, .int .i64 x', .int .i64 y'] 28))
  have hb0 := VBox.new (w.alloc (.cells #[.int .i64 a, .int .i64 r, bu, pu, .int .i64 x, .int .i64 y] 28)) a' r' bv pv x' y'
  rw [World.size_alloc] at hb0
  have B0 := Lib.hid hb0
  have HG := Lib.hid (show Below w.heap.size w ((w.alloc (.cells #[.int .i64 a, .int .i64 r, bu, pu, .int .i64 x, .int .i64 y] 28)).alloc (.cells #[.int .i64 a', .int .i64 r', bv, pv, .int .i64 x', .int .i64 y'] 28)) from ((Below.refl _ _).alloc (Nat.le_refl _) _).alloc (by simp) _)
  have HBU := Lib.hid hbu
  have HPU := Lib.hid hpu
  have HBV := Lib.hid hbv
  have HPV := Lib.hid hpv
  have HS := Lib.hid hs
  obtain ⟨m1, m2, rfl⟩ := hbu.len
  obtain ⟨m3, m4, rfl⟩ := hpu.len
  obtain ⟨m5, m6, rfl⟩ := hbv.len
  obtain ⟨m7, m8, rfl⟩ := hpv.len
  obtain ⟨zp, hzp⟩ : ∃ z, (ps == ps') = z := ⟨_, rfl⟩
  obtain ⟨zb, hzb⟩ : ∃ z, (bs == bs') = z := ⟨_, rfl⟩
  rw [hzp, hzb]
  have ZP := Lib.hid hzp
  have ZB := Lib.hid hzb
  clear hb0 hbu hpu hbv hpv hs hzp hzb
  have run : ∀ z, ((a == a') && ((r == r') && (zb && (zp && ((x == x') && (y == y')))))) = z → Calls Try.prog 10 #[vtxV a r (.slice m1 bs.length m2) (.slice m3 ps.length m4) x y, vtxV a' r' (.slice m5 bs'.length m6) (.slice m7 ps'.length m8) x' y'] w fun e w' => e = .returned (.bool z) ∧ Below w.heap.size w w' := by
    intro z hz
    have HZ := Lib.hid hz
    clear hz
    go_enter Try.func10, Try.ntmps10
    go_wp2_with fail
    refine (rsameT_eq ZP.out _ _ _ (HPU.out.below HG.out) (HPV.out.below HG.out) lp).mono ?_
    rintro e w1 ⟨rfl, g1⟩
    have A1 := Lib.hid (A0.out.kept g1)
    have B1 := Lib.hid (B0.out.kept g1)
    have G1 := Lib.hid (HG.out.trans (g1.mono (by simp; omega)))
    obtain ⟨c0, c1, c2, c3, c4, c5⟩ := A1.out.cells
    obtain ⟨d0, d1, d2, d3, d4, d5⟩ := B1.out.cells
    clear g1
    go_wp2_with fail
    refine (rsameAll_eq ZB.out _ _ _ (HBU.out.below G1.out) (HBV.out.below G1.out) lb HS.out).mono ?_
    rintro e w2 ⟨rfl, g2⟩
    have A2 := Lib.hid (A1.out.kept g2)
    have B2 := Lib.hid (B1.out.kept g2)
    have G2 := Lib.hid (grow_trans G1.out g2)
    clear c0 c1 c2 c3 c4 c5 d0 d1 d2 d3 d4 d5 g2
    obtain ⟨c0, c1, c2, c3, c4, c5⟩ := A2.out.cells
    obtain ⟨d0, d1, d2, d3, d4, d5⟩ := B2.out.cells
    cases zp with
    | false =>
      have hz := HZ.out
      simp only [Bool.false_and, Bool.and_false] at hz
      subst hz
      go_wp2
      go_ret
      exact ⟨rfl, G2.out⟩
    | true =>
    cases zb with
    | false =>
      have hz := HZ.out
      simp only [Bool.false_and, Bool.and_false] at hz
      subst hz
      go_wp2
      go_ret
      exact ⟨rfl, G2.out⟩
    | true =>
    by_cases h0 : a = a'
    case neg =>
      have t0 : (a == a') = false := beq_eq_false_iff_ne.2 h0
      have hz := HZ.out
      simp only [Bool.true_and, t0, Bool.false_and] at hz
      subst hz
      clear HZ
      go_wp2
      go_ret
      exact ⟨rfl, G2.out⟩
    have t0 : (a == a') = true := beq_iff_eq.2 h0
    by_cases h1 : r = r'
    case neg =>
      have t1 : (r == r') = false := beq_eq_false_iff_ne.2 h1
      have hz := HZ.out
      simp only [Bool.true_and, t0, t1, Bool.false_and, Bool.and_false] at hz
      subst hz
      clear HZ
      go_wp2
      go_ret
      exact ⟨rfl, G2.out⟩
    have t1 : (r == r') = true := beq_iff_eq.2 h1
    by_cases h2 : x = x'
    case neg =>
      have t2 : (x == x') = false := beq_eq_false_iff_ne.2 h2
      have hz := HZ.out
      simp only [t0, t1, t2, Bool.false_and, Bool.and_false] at hz
      subst hz
      clear HZ
      go_wp2
      go_ret
      exact ⟨rfl, G2.out⟩
    have t2 : (x == x') = true := beq_iff_eq.2 h2
    by_cases h3 : y = y'
    case neg =>
      have t3 : (y == y') = false := beq_eq_false_iff_ne.2 h3
      have hz := HZ.out
      simp only [t0, t1, t2, t3, Bool.and_false] at hz
      subst hz
      clear HZ
      go_wp2
      go_ret
      exact ⟨rfl, G2.out⟩
    have t3 : (y == y') = true := beq_iff_eq.2 h3
    have hz := HZ.out
    simp only [t0, t1, t2, t3, Bool.and_self] at hz
    subst hz
    clear HZ
    go_wp2
    go_ret
    exact ⟨rfl, G2.out⟩
  exact run _ rfl
theorem rvsame_eq {u v : Vt.Vtx} {z : Bool} (h : (u == v) = z) (bu pu bv pv : Value) (w : World) (hbu : BtsAt w bu u.2.2.1) (hpu : TxAt w pu u.2.2.2.1) (hbv : BtsAt w bv v.2.2.1) (hpv : TxAt w pv v.2.2.2.1) (lb : u.2.2.1.length ≤ 140737488351232) (hs : Vt.Small u.2.2.1) (lp : u.2.2.2.1.length ≤ 140737488351232) :
    Calls Try.prog 10 #[vtxV u.1 u.2.1 bu pu u.2.2.2.2.1 u.2.2.2.2.2, vtxV v.1 v.2.1 bv pv v.2.2.2.2.1 v.2.2.2.2.2] w fun e w' => e = .returned (.bool z) ∧ Below w.heap.size w w' := by subst h; exact rvsame u v bu pu bv pv w hbu hpu hbv hpv lb hs lp
end Go.Proofs.Ytmhohnffaffdfaa
