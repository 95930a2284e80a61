/- Package vertex as it landed: which vertices may be. -/
import Derived.Test.YtmhohnffaffdfaaVtxMayP
namespace Vt
theorem mayS_no {r x y : Int} (h : elemMay x y = false) : mayS r x y = false := by rw [mayS, h, Bool.false_and]
theorem mayS_third {r x y : Int} (h : elemMay x y = true) (ht : third r = true) : mayS r x y = true := by rw [mayS, h, ht]; rfl
theorem mayS_zero {r x y : Int} (h : elemMay x y = true) (ht : third r = false) : mayS r x y = ((x == 0) && (y == 0)) := by
  rw [mayS, h, ht, Bool.true_and, Bool.false_or, Bool.eq_iff_iff, decide_eq_true_iff, Bool.and_eq_true, beq_iff_eq, beq_iff_eq]
end Vt
namespace Go.Proofs.Ytmhohnffaffdfaa
open Go.RowKit
attribute [local go_sem] build_el build_el0 eq_el guard_el

set_option maxHeartbeats 2000000 in
theorem pmayS (a r x y : Int) (bv pv : Value) (w : World) :
    Calls Try.prog 30 #[vtxV a r bv pv x y] w fun e w' => e = .returned (.bool (Vt.mayS r x y)) ∧ Below w.heap.size w w' := by
  have VB := Lib.hid (VBox.new w a r bv pv x y)
  have HG := Lib.hid (show Below w.heap.size w (w.alloc (.cells #[.int .i64 a, .int .i64 r, bv, pv, .int .i64 x, .int .i64 y] 28)) from (Below.refl _ _).alloc (Nat.le_refl _) _)
  cases hm : Vt.elemMay x y with
  | false =>
    rw [Vt.mayS_no hm]
    have HM := Lib.hid hm
    clear hm
    go_enter Try.func30, Try.ntmps30
    go_wp2_with fail
    refine (pelmay_eq HM.out _).mono ?_
    rintro e w1 ⟨rfl, g1⟩
    have G1 := Lib.hid (HG.out.trans (g1.mono (by simp)))
    clear g1
    go_wp2
    go_ret
    exact ⟨rfl, G1.out⟩
  | true =>
    cases ht : Vt.third r with
    | true =>
      rw [Vt.mayS_third hm ht]
      have HM := Lib.hid hm
      have HT := Lib.hid ht
      clear hm ht
      go_enter Try.func30, Try.ntmps30
      go_wp2_with fail
      refine (pelmay_eq HM.out _).mono ?_
      rintro e w1 ⟨rfl, g1⟩
      have v1 := VB.out.kept g1
      obtain ⟨c0, c1, c2, c3, c4, c5⟩ := v1.cells
      have G1 := Lib.hid (HG.out.trans (g1.mono (by simp)))
      clear g1 v1
      go_wp2_with fail
      refine (pthird_eq HT.out _).mono ?_
      rintro e w2 ⟨rfl, rfl⟩
      go_wp2
      go_ret
      exact ⟨rfl, G1.out⟩
    | false =>
      rw [Vt.mayS_zero hm ht]
      have HM := Lib.hid hm
      have HT := Lib.hid ht
      clear hm ht
      by_cases hx : x = 0
      · subst hx
        by_cases hy : y = 0
        · subst hy
          go_enter Try.func30, Try.ntmps30
          go_wp2_with fail
          refine (pelmay_eq HM.out _).mono ?_
          rintro e w1 ⟨rfl, g1⟩
          have v1 := VB.out.kept g1
          obtain ⟨c0, c1, c2, c3, c4, c5⟩ := v1.cells
          have G1 := Lib.hid (HG.out.trans (g1.mono (by simp)))
          clear g1 v1
          go_wp2_with fail
          refine (pthird_eq HT.out _).mono ?_
          rintro e w2 ⟨rfl, rfl⟩
          go_wp2
          go_ret
          exact ⟨rfl, G1.out⟩
        · have e : ((y == 0) = false) := beq_eq_false_iff_ne.2 hy
          rw [e]
          clear e
          go_enter Try.func30, Try.ntmps30
          go_wp2_with fail
          refine (pelmay_eq HM.out _).mono ?_
          rintro e w1 ⟨rfl, g1⟩
          have v1 := VB.out.kept g1
          obtain ⟨c0, c1, c2, c3, c4, c5⟩ := v1.cells
          have G1 := Lib.hid (HG.out.trans (g1.mono (by simp)))
          clear g1 v1
          go_wp2_with fail
          refine (pthird_eq HT.out _).mono ?_
          rintro e w2 ⟨rfl, rfl⟩
          go_wp2
          go_ret
          exact ⟨rfl, G1.out⟩
      · have e : ((x == 0) = false) := beq_eq_false_iff_ne.2 hx
        rw [e]
        clear e
        go_enter Try.func30, Try.ntmps30
        go_wp2_with fail
        refine (pelmay_eq HM.out _).mono ?_
        rintro e w1 ⟨rfl, g1⟩
        have v1 := VB.out.kept g1
        obtain ⟨c0, c1, c2, c3, c4, c5⟩ := v1.cells
        have G1 := Lib.hid (HG.out.trans (g1.mono (by simp)))
        clear g1 v1
        go_wp2_with fail
        refine (pthird_eq HT.out _).mono ?_
        rintro e w2 ⟨rfl, rfl⟩
        go_wp2
        go_ret
        exact ⟨rfl, G1.out⟩

theorem pmayB_eq {n : Int} {l : List Bt.Bat} {z : Bool} (h : Vt.mayB n l = z) (v : Value) (w : World) (hv : BtsAt w v l) (hl : l.length ≤ 140737488351232) (hs : Vt.Small l) :
    Calls Try.prog 28 #[v, .int .i64 n] w fun e w' => e = .returned (.bool z) ∧ Below w.heap.size w w' := by subst h; exact pmayB v l n w hv hl hs
theorem pmayP_eq {r n : Int} {ps : List (List UInt8)} {z : Bool} (h : Vt.mayP r n ps = z) (a x y : Int) (bv pv : Value) (w : World) (hp : TxAt w pv ps) (hl : ps.length ≤ 140737488351232) (n1 : -9223372036854775808 ≤ n) (n2 : n ≤ 9223372036854775807) :
    Calls Try.prog 29 #[vtxV a r bv pv x y, .int .i64 n] w fun e w' => e = .returned (.bool z) ∧ Below w.heap.size w w' := by subst h; exact pmayP a r x y n bv pv ps w hp hl n1 n2
theorem pmayS_eq {r x y : Int} {z : Bool} (h : Vt.mayS r x y = z) (a : Int) (bv pv : Value) (w : World) :
    Calls Try.prog 30 #[vtxV a r bv pv x y] w fun e w' => e = .returned (.bool z) ∧ Below w.heap.size w w' := by subst h; exact pmayS a r x y bv pv w

set_option maxHeartbeats 4000000 in
theorem pvmay (v : Vt.Vtx) (bv pv : Value) (n : Int) (w : World) (hb : BtsAt w bv v.2.2.1) (hp : TxAt w pv v.2.2.2.1) (lb : v.2.2.1.length ≤ 140737488351232) (hs : Vt.Small v.2.2.1) (lp : v.2.2.2.1.length ≤ 140737488351232) (n1 : -9223372036854775808 ≤ n) (n2 : n ≤ 9223372036854775807) :
    Calls Try.prog 12 #[vtxV v.1 v.2.1 bv pv v.2.2.2.2.1 v.2.2.2.2.2, .int .i64 n] w fun e w' => e = .returned (.bool (Vt.may v n)) ∧ Below w.heap.size w w' := by
  obtain ⟨a, r, bs, ps, x, y⟩ := v
  simp only [] at hb hp lb hs lp ⊢
  have VB := Lib.hid (VBox.new w a r bv pv x y)
  have HG := Lib.hid (show Below w.heap.size w (w.alloc (.cells #[.int .i64 a, .int .i64 r, bv, pv, .int .i64 x, .int .i64 y] 28)) from (Below.refl _ _).alloc (Nat.le_refl _) _)
  have HB := Lib.hid hb
  have HP := Lib.hid hp
  have HS := Lib.hid hs
  obtain ⟨ab, cb, rfl⟩ := hb.len
  obtain ⟨ap, cp, rfl⟩ := hp.len
  clear hb hp hs
  simp only [Vt.may]
  obtain ⟨z0, hz0⟩ : ∃ z, Se.may n = z := ⟨_, rfl⟩
  obtain ⟨z1, hz1⟩ : ∃ z, Vt.mayB n bs = z := ⟨_, rfl⟩
  obtain ⟨z2, hz2⟩ : ∃ z, Vt.mayP r n ps = z := ⟨_, rfl⟩
  obtain ⟨z3, hz3⟩ : ∃ z, Vt.mayS r x y = z := ⟨_, rfl⟩
  rw [hz0, hz1, hz2, hz3]
  have Z0 := Lib.hid hz0
  have Z1 := Lib.hid hz1
  have Z2 := Lib.hid hz2
  have Z3 := Lib.hid hz3
  clear hz0 hz1 hz2 hz3
  cases z0 with
  | false =>
    simp only [Bool.false_and]
    go_enter Try.func12, Try.ntmps12
    go_wp2_with fail
    refine (pmay_eq Z0.out n1 n2 _).mono ?_
    rintro e w1 ⟨rfl, rfl⟩
    go_wp2
    go_ret
    exact ⟨rfl, HG.out⟩
  | true =>
  simp only [Bool.true_and]
  by_cases h1 : 1 ≤ a
  case neg =>
    rw [decide_eq_false (show ¬ (1 ≤ a ∧ a ≤ n) by omega)]
    simp only [Bool.false_and]
    have t1 : decide (1 ≤ a) = false := decide_eq_false h1
    clear h1
    go_enter Try.func12, Try.ntmps12
    go_wp2_with fail
    refine (pmay_eq Z0.out n1 n2 _).mono ?_
    rintro e w1 ⟨rfl, rfl⟩
    go_wp2
    go_ret
    exact ⟨rfl, HG.out⟩
  have t1 : decide (1 ≤ a) = true := decide_eq_true h1
  by_cases h2 : a ≤ n
  case neg =>
    rw [decide_eq_false (show ¬ (1 ≤ a ∧ a ≤ n) by omega)]
    simp only [Bool.false_and]
    have t2 : decide (a ≤ n) = false := decide_eq_false h2
    clear h1 h2
    go_enter Try.func12, Try.ntmps12
    go_wp2_with fail
    refine (pmay_eq Z0.out n1 n2 _).mono ?_
    rintro e w1 ⟨rfl, rfl⟩
    go_wp2
    go_ret
    exact ⟨rfl, HG.out⟩
  have t2 : decide (a ≤ n) = true := decide_eq_true h2
  rw [decide_eq_true (show 1 ≤ a ∧ a ≤ n from ⟨h1, h2⟩), Bool.true_and]
  by_cases h3 : 1 ≤ r
  case neg =>
    rw [decide_eq_false (show ¬ (1 ≤ r ∧ r ≤ 1048576) by omega)]
    simp only [Bool.false_and]
    have t3 : decide (1 ≤ r) = false := decide_eq_false h3
    clear h1 h2 h3
    go_enter Try.func12, Try.ntmps12
    go_wp2_with fail
    refine (pmay_eq Z0.out n1 n2 _).mono ?_
    rintro e w1 ⟨rfl, rfl⟩
    go_wp2
    go_ret
    exact ⟨rfl, HG.out⟩
  have t3 : decide (1 ≤ r) = true := decide_eq_true h3
  by_cases h4 : r ≤ 1048576
  case neg =>
    rw [decide_eq_false (show ¬ (1 ≤ r ∧ r ≤ 1048576) by omega)]
    simp only [Bool.false_and]
    have t4 : decide (r ≤ 1048576) = false := decide_eq_false h4
    clear h1 h2 h3 h4
    go_enter Try.func12, Try.ntmps12
    go_wp2_with fail
    refine (pmay_eq Z0.out n1 n2 _).mono ?_
    rintro e w1 ⟨rfl, rfl⟩
    go_wp2
    go_ret
    exact ⟨rfl, HG.out⟩
  have t4 : decide (r ≤ 1048576) = true := decide_eq_true h4
  rw [decide_eq_true (show 1 ≤ r ∧ r ≤ 1048576 from ⟨h3, h4⟩), Bool.true_and]
  clear h1 h2 h3 h4
  go_enter Try.func12, Try.ntmps12
  go_wp2_with fail
  refine (pmay_eq Z0.out n1 n2 _).mono ?_
  rintro e w1 ⟨rfl, rfl⟩
  go_wp2_with fail
  refine (pmayB_eq Z1.out _ _ (HB.out.below HG.out) lb HS.out).mono ?_
  rintro e w1 ⟨rfl, g1⟩
  have v1 := Lib.hid (VB.out.kept g1)
  obtain ⟨c0, c1, c2, c3, c4, c5⟩ := v1.out.cells
  have G1 := Lib.hid (HG.out.trans (g1.mono (by simp)))
  clear g1
  cases z1 with
  | false =>
    go_wp2
    go_ret
    exact ⟨rfl, G1.out⟩
  | true =>
  go_wp2_with fail
  refine (pmayP_eq Z2.out a x y _ _ _ (HP.out.below G1.out) lp n1 n2).mono ?_
  rintro e w2 ⟨rfl, g2⟩
  have v2 := Lib.hid (v1.out.kept g2)
  clear c0 c1 c2 c3 c4 c5
  obtain ⟨c0, c1, c2, c3, c4, c5⟩ := v2.out.cells
  have G2 := Lib.hid (grow_trans G1.out g2)
  clear g2
  cases z2 with
  | false =>
    go_wp2
    go_ret
    exact ⟨rfl, G2.out⟩
  | true =>
  go_wp2_with fail
  refine (pmayS_eq Z3.out a _ _ _).mono ?_
  rintro e w3 ⟨rfl, g3⟩
  have G3 := Lib.hid (grow_trans G2.out g3)
  clear g3
  go_wp2
  go_ret
  exact ⟨rfl, G3.out⟩
theorem pvmay_eq {v : Vt.Vtx} {n : Int} {z : Bool} (h : Vt.may v n = z) (bv pv : Value) (w : World) (hb : BtsAt w bv v.2.2.1) (hp : TxAt w pv v.2.2.2.1) (lb : v.2.2.1.length ≤ 140737488351232) (hs : Vt.Small v.2.2.1) (lp : v.2.2.2.1.length ≤ 140737488351232) (n1 : -9223372036854775808 ≤ n) (n2 : n ≤ 9223372036854775807) :
    Calls Try.prog 12 #[vtxV v.1 v.2.1 bv pv v.2.2.2.2.1 v.2.2.2.2.2, .int .i64 n] w fun e w' => e = .returned (.bool z) ∧ Below w.heap.size w w' := by subst h; exact pvmay v bv pv n w hb hp lb hs lp n1 n2
end Go.Proofs.Ytmhohnffaffdfaa
