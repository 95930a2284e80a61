/- VtxRMay, VtxOpen, VtxMod, in one. -/
import Derived.Test.YtbkpekpajeaacaaVtxA
import Derived.Test.YtbkpekpajeaacaaGDig
import Derived.Test.YtbkpekpajeaacaaGVtx
/- The document's May of vertices. -/
namespace Vt
theorem may_no0 {v : Vtx} {n : Int} (h : Se.may n = false) : may v n = false := by rw [may, h, Bool.false_and]
theorem may_noA {v : Vtx} {n : Int} (h : ¬ (1 ≤ v.1 ∧ v.1 ≤ n)) : may v n = false := by rw [may, decide_eq_false h, Bool.false_and, Bool.and_false]
theorem may_noR {v : Vtx} {n : Int} (h : ¬ (1 ≤ v.2.1 ∧ v.2.1 ≤ 1048576)) : may v n = false := by rw [may, decide_eq_false h, Bool.false_and, Bool.and_false, Bool.and_false]
theorem may_noB {v : Vtx} {n : Int} (h : mayB n v.2.2.1 = false) : may v n = false := by rw [may, h, Bool.false_and, Bool.and_false, Bool.and_false, Bool.and_false]
theorem may_noP {v : Vtx} {n : Int} (h : mayP v.2.1 n v.2.2.2.1 = false) : may v n = false := by rw [may, h, Bool.false_and, Bool.and_false, Bool.and_false, Bool.and_false, Bool.and_false]
theorem may_S {v : Vtx} {n : Int} (h0 : Se.may n = true) (hA : 1 ≤ v.1 ∧ v.1 ≤ n) (hR : 1 ≤ v.2.1 ∧ v.2.1 ≤ 1048576) (hB : mayB n v.2.2.1 = true) (hP : mayP v.2.1 n v.2.2.2.1 = true) : may v n = mayS v.2.1 v.2.2.2.2.1 v.2.2.2.2.2 := by
  rw [may, h0, decide_eq_true hA, decide_eq_true hR, hB, hP]; simp
theorem mayB_long {n : Int} {l : List Bt.Bat} (h : ¬ l.length ≤ 4) : mayB n l = false := by rw [mayB, decide_eq_false h, Bool.false_and]
theorem mayB_hit {n : Int} {l : List Bt.Bat} (k : Nat) (h : k < l.length) (hw : wrongB n l[k] = true) : mayB n l = false := by rw [mayB, allB_hit n l k h hw, Bool.and_false]
theorem mayB_all {n : Int} {l : List Bt.Bat} (h4 : l.length ≤ 4) (h : ∀ j (hj : j < l.length), wrongB n l[j] = false) : mayB n l = true := by rw [mayB, allB_all n l h, decide_eq_true h4]; rfl
end Vt
namespace Go.Proofs.Ytbkpekpajeaacaa
open Go.RowKit
set_option maxRecDepth 100000
attribute [local go_sem] build_el build_el0 eq_el guard_el

theorem rquorum_eq {n q : Int} (h : Se.quorum n = q) (h1 : -9223372036854775808 ≤ n) (h2 : n ≤ 9223372036854775807) (w : World) :
    Calls Try.prog 98 #[.int .i64 n] w fun e w' => e = .returned (.int .i64 q) ∧ w' = w := by
  subst h; exact (rquorum_any n h1 h2 w).mono fun e w' ⟨he, hw⟩ => ⟨he, hw.symm⟩
theorem vless_eq {a b : List UInt8} {z : Bool} (h : Dg.less a b = z) (ha : a.length ≤ 140737488351232) (hb : b.length ≤ 140737488351232) (w : World) :
    Calls Try.prog 99 #[tx a, tx b] w fun e w' => e = .returned (.bool z) ∧ ∃ n, w' = w.drewN n := by subst h; exact less_any a b ha hb w

set_option maxHeartbeats 8000000 in
theorem rvmay (v : Vt.Vtx) (bv pv : Value) (n : Int) (w : World) (hb : BtsAt w bv v.2.2.1) (hp : TxAt w pv v.2.2.2.1) (lb : v.2.2.1.length ≤ 140737488351232) (lp : v.2.2.2.1.length ≤ 140737488351232) (n1 : -9223372036854775808 ≤ n) (n2 : n ≤ 9223372036854775807) :
    Calls Try.prog 67 #[vtxV v.1 v.2.1 bv pv v.2.2.2.2.1 v.2.2.2.2.2, .int .i64 n] w fun e w' => e = .returned (.bool (Vt.may v n)) ∧ Below w.heap.size w w' := by
  obtain ⟨a, r, bs, ps, x, y⟩ := v
  simp only [] at hb hp lb lp ⊢
  have VB := Lib.hid (VBox.new w a r bv pv x y)
  have HG := Lib.hid (show Below w.heap.size w (w.alloc (.cells #[.int .i64 a, .int .i64 r, bv, pv, .int .i64 x, .int .i64 y] 27)) from (Below.refl _ _).alloc (Nat.le_refl _) _)
  have HB := Lib.hid hb
  have HP := Lib.hid hp
  obtain ⟨ab, cb, hbe⟩ := hb.len
  obtain ⟨ap, cp, hpe⟩ := hp.len
  clear hb hp
  cases hz0 : Se.may n with
  | false =>
    have E := Lib.hid (Vt.may_no0 (v := (a, r, bs, ps, x, y)) hz0)
    have Z0 := Lib.hid hz0
    subst hbe
    subst hpe
    clear hz0
    go_enter Try.func67, Try.ntmps67
    go_wp2_with fail
    refine (rmay_eq Z0.out n1 n2 _).mono ?_
    rintro e w1 ⟨rfl, rfl⟩
    go_wp2
    go_ret
    exact ⟨by rw [E.out]; rfl, HG.out⟩
  | true =>
  have Z0 := Lib.hid hz0
  clear hz0
  by_cases h0 : a < 1
  case pos =>
    have E := Lib.hid (Vt.may_noA (v := (a, r, bs, ps, x, y)) (n := n) (by simp only []; omega))
    have t0 : decide (a < 1) = true := decide_eq_true h0
    subst hbe
    subst hpe
    clear h0
    go_enter Try.func67, Try.ntmps67
    go_wp2_with fail
    refine (rmay_eq Z0.out n1 n2 _).mono ?_
    rintro e w1 ⟨rfl, rfl⟩
    go_wp2
    go_ret
    exact ⟨by rw [E.out]; rfl, HG.out⟩
  have t0 : decide (a < 1) = false := decide_eq_false h0
  by_cases h1 : n < a
  case pos =>
    have E := Lib.hid (Vt.may_noA (v := (a, r, bs, ps, x, y)) (n := n) (by simp only []; omega))
    have t1 : decide (n < a) = true := decide_eq_true h1
    subst hbe
    subst hpe
    clear h0 h1
    go_enter Try.func67, Try.ntmps67
    go_wp2_with fail
    refine (rmay_eq Z0.out n1 n2 _).mono ?_
    rintro e w1 ⟨rfl, rfl⟩
    go_wp2
    go_ret
    exact ⟨by rw [E.out]; rfl, HG.out⟩
  have t1 : decide (n < a) = false := decide_eq_false h1
  by_cases h2 : r < 1
  case pos =>
    have E := Lib.hid (Vt.may_noR (v := (a, r, bs, ps, x, y)) (n := n) (by simp only []; omega))
    have t2 : decide (r < 1) = true := decide_eq_true h2
    subst hbe
    subst hpe
    clear h0 h1 h2
    go_enter Try.func67, Try.ntmps67
    go_wp2_with fail
    refine (rmay_eq Z0.out n1 n2 _).mono ?_
    rintro e w1 ⟨rfl, rfl⟩
    go_wp2
    go_ret
    exact ⟨by rw [E.out]; rfl, HG.out⟩
  have t2 : decide (r < 1) = false := decide_eq_false h2
  by_cases h3 : 1048576 < r
  case pos =>
    have E := Lib.hid (Vt.may_noR (v := (a, r, bs, ps, x, y)) (n := n) (by simp only []; omega))
    have t3 : decide (1048576 < r) = true := decide_eq_true h3
    subst hbe
    subst hpe
    clear h0 h1 h2 h3
    go_enter Try.func67, Try.ntmps67
    go_wp2_with fail
    refine (rmay_eq Z0.out n1 n2 _).mono ?_
    rintro e w1 ⟨rfl, rfl⟩
    go_wp2
    go_ret
    exact ⟨by rw [E.out]; rfl, HG.out⟩
  have t3 : decide (1048576 < r) = false := decide_eq_false h3
  by_cases h4 : 4 < (bs.length : Int)
  case pos =>
    have E := Lib.hid (Vt.may_noB (v := (a, r, bs, ps, x, y)) (n := n) (Vt.mayB_long (by simp only []; omega)))
    have t4 : decide (4 < (bs.length : Int)) = true := decide_eq_true h4
    subst hbe
    subst hpe
    clear h0 h1 h2 h3 h4
    go_enter Try.func67, Try.ntmps67
    go_wp2_with fail
    refine (rmay_eq Z0.out n1 n2 _).mono ?_
    rintro e w1 ⟨rfl, rfl⟩
    go_wp2
    go_ret
    exact ⟨by rw [E.out]; rfl, HG.out⟩
  have t4 : decide (4 < (bs.length : Int)) = false := decide_eq_false h4
  have h4 : bs.length ≤ 4 := by omega
  have HAR := Lib.hid (show (1 ≤ a ∧ a ≤ n) ∧ (1 ≤ r ∧ r ≤ 1048576) ∧ bs.length ≤ 4 by omega)
  have hSM : ∀ j (hj : j < bs.length), ∃ u, (∃ b off cap, bv = .slice (some ⟨b, off, none⟩) bs.length cap ∧ w.cell? ⟨b, off + j * 3, none⟩ = some (.int .i64 bs[j].1) ∧ w.cell? ⟨b, off + j * 3 + 1, none⟩ = some (.int .i64 bs[j].2.1) ∧ w.cell? ⟨b, off + j * 3 + 2, none⟩ = some u) ∧ TxAt w u bs[j].2.2 := by
    intro j hj
    rcases HB.out.cells with ⟨rfl, _⟩ | ⟨_, b, off, cap, e, hc⟩
    · simp at hj
    · obtain ⟨u, d0, d1, d2, hu⟩ := hc j hj
      exact ⟨u, ⟨b, off, cap, e, d0, d1, d2⟩, hu⟩
  have HSM := Lib.hid hSM
  clear hSM h0 h1 h2 h3 h4
  subst hbe
  obtain ⟨ZB, hZB⟩ : ∃ z : World → Prop, ∀ w', z w' ↔ VBox w' w.heap.size a r (.slice ab bs.length cb) pv x y ∧ Below w.heap.size w w' := ⟨_, fun _ => Iff.rfl⟩
  have HZB := Lib.hid hZB
  have hz : ZB (w.alloc (.cells #[.int .i64 a, .int .i64 r, .slice ab bs.length cb, pv, .int .i64 x, .int .i64 y] 27)) := (hZB _).2 ⟨VB.out, HG.out⟩
  have HZ1 := Lib.hid hz
  clear hZB hz
  subst hpe
  go_enter Try.func67, Try.ntmps67
  go_wp2_with fail
  refine (rmay_eq Z0.out n1 n2 _).mono ?_
  rintro e w1 ⟨rfl, rfl⟩
  go_wp2_with fail
  go_loopw [6] (fun i wr => ∃ k : Nat, i = .int .i64 k ∧ k ≤ bs.length ∧ (∀ j (hj : j < bs.length), j < k → Vt.wrongB n bs[j] = false) ∧ ZB wr) (fun i _ => bs.length - (intOf i).toNat)
  case atStart => exact ⟨0, rfl, by omega, fun _ _ h => absurd h (by omega), HZ1.out⟩
  case round =>
    obtain ⟨k, rfl, hk, hn, hzb⟩ := hrel
    have HN := Lib.hid hn
    obtain ⟨vb, gb⟩ := (HZB.out _).1 hzb
    have V1 := Lib.hid vb
    have G1 := Lib.hid gb
    obtain ⟨c0, c1, c2, c3, c4, c5⟩ := vb.cells
    clear hn hzb vb gb
    by_cases hlt : k < bs.length
    · obtain ⟨u, ⟨b, off, cap, hbe, d0, d1, d2⟩, hu⟩ := HSM.out k hlt
      have HU := Lib.hid (hu.below G1.out)
      have e0 := below_cell G1.out d0
      have e1 := below_cell G1.out d1
      have e2 := below_cell G1.out d2
      have D0 := Lib.hid d0
      obtain ⟨au, cu, rfl⟩ := hu.len
      have hstep : Vt.wrongB n bs[k] = false → ∀ j (hj : j < bs.length), j < k + 1 → Vt.wrongB n bs[j] = false := by
        intro he j hj hjk
        by_cases e : j = k
        · subst e; exact he
        · exact HN.out j hj (by omega)
      have hfound : Vt.wrongB n bs[k] = true → Vt.may (a, r, bs, ps, x, y) n = false := fun he => Vt.may_noB (v := (a, r, bs, ps, x, y)) (Vt.mayB_hit k hlt he)
      have hwr : Vt.wrongB n bs[k] = (!Bt.may bs[k] || decide (n < bs[k].1)) := rfl
      have HST := Lib.hid hstep
      have HF := Lib.hid hfound
      have HW := Lib.hid hwr
      clear hstep hfound d0 d1 d2 hu hwr
      injection hbe with hb1 _ hb2
      subst hb1
      subst hb2
      generalize bs[k] = z at *
      obtain ⟨o, q, m⟩ := z
      simp only [] at e0 e1 e2 HU D0 HW
      obtain ⟨mz, hmz⟩ : ∃ mz, Bt.may (o, q, m) = mz := ⟨_, rfl⟩
      have HM := Lib.hid hmz
      rw [hmz] at HW
      clear hmz
      go_wp2_with fail
      refine (rbmay_eq (b := (o, q, m)) HM.out _ HU.out).mono ?_
      rintro e w2 ⟨rfl, g2⟩
      have V2 := Lib.hid (V1.out.kept g2)
      have G2 := Lib.hid (grow_trans G1.out g2)
      have f0 := below_cell G2.out D0.out
      have HZ2 := Lib.hid ((HZB.out w2).2 ⟨V2.out, G2.out⟩)
      clear g2 c0 c1 c2 c3 c4 c5 e0 e1 e2
      obtain ⟨c0, c1, c2, c3, c4, c5⟩ := V2.out.cells
      cases mz with
      | false =>
        have E := Lib.hid (HF.out HW.out)
        go_wp2
        go_ret
        exact ⟨by rw [E.out]; rfl, G2.out⟩
      | true =>
        by_cases hno : n < o
        · have t7 : decide (n < o) = true := decide_eq_true hno
          have E := Lib.hid (HF.out (by rw [HW.out, t7]; rfl))
          clear hno
          go_wp2
          go_ret
          exact ⟨by rw [E.out]; rfl, G2.out⟩
        · have t7 : decide (n < o) = false := decide_eq_false hno
          have HS2 := Lib.hid (HST.out (by rw [HW.out, t7]; rfl))
          clear hno
          go_wp2
          go_roundw
          case rel => exact ⟨k + 1, by go_num, hlt, HS2.out, HZ2.out⟩
          case measure => simp [intOf]; omega
    · obtain rfl : k = bs.length := by omega
      have MB := Lib.hid (Vt.mayB_all (n := n) HAR.out.2.2 fun j hj => HN.out j hj hj)
      clear hlt hk HN HSM
      have h1r := HAR.out.2.1.1
      by_cases hr1 : r = 1
      · subst hr1
        by_cases hp0 : ps.length = 0
        · have tp : decide ((0 : Int) < (ps.length : Int)) = false := decide_eq_false (by omega)
          have E := Lib.hid (Vt.may_S (v := (a, 1, bs, ps, x, y)) Z0.out HAR.out.1 HAR.out.2.1 MB.out (by simp only []; rw [Vt.mayP_one, beq_iff_eq]; exact hp0))
          obtain rfl := List.length_eq_zero_iff.1 hp0
          clear hp0 h1r
          go_wp2_with fail
          go_quiet (fail)
          go_wp2_with fail
          refine wp_loop_rounds 1 ?_
          rw [rounds_succ]
          go_wp2_with fail
          obtain ⟨em, hem⟩ : ∃ z, Vt.elemMay x y = z := ⟨_, rfl⟩
          obtain ⟨th, hth⟩ : ∃ z, Vt.third 1 = z := ⟨_, rfl⟩
          have HEM := Lib.hid hem
          have HTH := Lib.hid hth
          clear hem hth
          refine (relmay_eq HEM.out _).mono ?_
          rintro e w3 ⟨rfl, g3⟩
          have V3 := Lib.hid (VBox.kept (W := World.drewN _ _) V1.out g3)
          have G3 := Lib.hid (grow_trans (below_drewN G1.out _) g3)
          clear c0 c1 c2 c3 c4 c5
          obtain ⟨k0, k1, k2, k3, k4, k5⟩ := V3.out.cells
          clear g3
          cases em with
          | false =>
            have E2 := Lib.hid (E.out.trans (Vt.mayS_no HEM.out))
            go_wp2_with fail
            refine (rthird_eq HTH.out _).mono ?_
            rintro e w4 ⟨rfl, rfl⟩
            go_wp2
            go_ret
            exact ⟨by rw [E2.out]; rfl, G3.out⟩
          | true =>
          cases th with
          | true =>
            have E2 := Lib.hid (E.out.trans (Vt.mayS_third HEM.out HTH.out))
            go_wp2_with fail
            refine (rthird_eq HTH.out _).mono ?_
            rintro e w4 ⟨rfl, rfl⟩
            go_wp2
            go_ret
            exact ⟨by rw [E2.out]; rfl, G3.out⟩
          | false =>
          by_cases hx : x = 0
          · by_cases hy : y = 0
            · have E2 := Lib.hid ((E.out.trans (Vt.mayS_zero HEM.out HTH.out)).trans (show ((x == 0) && (y == 0)) = true by rw [hx, hy]; rfl))
              have tx : (x == 0) = true := beq_iff_eq.2 hx
              have ty : (y == 0) = true := beq_iff_eq.2 hy
              clear hx hy
              go_wp2_with fail
              refine (rthird_eq HTH.out _).mono ?_
              rintro e w4 ⟨rfl, rfl⟩
              go_wp2
              go_ret
              exact ⟨by rw [E2.out]; rfl, G3.out⟩
            · have E2 := Lib.hid ((E.out.trans (Vt.mayS_zero HEM.out HTH.out)).trans (show ((x == 0) && (y == 0)) = false by rw [beq_eq_false_iff_ne.2 hy, Bool.and_false]))
              have tx : (x == 0) = true := beq_iff_eq.2 hx
              have ty : (y == 0) = false := beq_eq_false_iff_ne.2 hy
              clear hx hy
              go_wp2_with fail
              refine (rthird_eq HTH.out _).mono ?_
              rintro e w4 ⟨rfl, rfl⟩
              go_wp2
              go_ret
              exact ⟨by rw [E2.out]; rfl, G3.out⟩
          · have E2 := Lib.hid ((E.out.trans (Vt.mayS_zero HEM.out HTH.out)).trans (show ((x == 0) && (y == 0)) = false by rw [beq_eq_false_iff_ne.2 hx, Bool.false_and]))
            have tx : (x == 0) = false := beq_eq_false_iff_ne.2 hx
            clear hx
            go_wp2_with fail
            refine (rthird_eq HTH.out _).mono ?_
            rintro e w4 ⟨rfl, rfl⟩
            go_wp2
            go_ret
            exact ⟨by rw [E2.out]; rfl, G3.out⟩
        · have tp : decide ((0 : Int) < (ps.length : Int)) = true := decide_eq_true (by omega)
          have tq : 0 < ps.length := by omega
          have tr : ¬ ps.length = 0 := hp0
          have ts : ps ≠ [] := fun e => hp0 (by rw [e]; rfl)
          have E := Lib.hid (Vt.may_noP (v := (a, 1, bs, ps, x, y)) (n := n) (by simp only []; rw [Vt.mayP_one, beq_eq_false_iff_ne]; exact hp0))
          clear hp0 h1r
          go_wp2
          go_ret
          exact ⟨by rw [E.out]; rfl, G1.out⟩
      have t8 : (r == 1) = false := beq_eq_false_iff_ne.2 hr1
      have t9 : decide (1 < r) = true := decide_eq_true (by omega)
      have HR1 := Lib.hid hr1
      obtain ⟨qq, hqq⟩ : ∃ q, Se.quorum n = q := ⟨_, rfl⟩
      have HQ := Lib.hid hqq
      clear hqq hr1 h1r
      by_cases hq1 : (ps.length : Int) < qq
      · have E := Lib.hid (Vt.may_noP (v := (a, r, bs, ps, x, y)) (Vt.mayP_short (n := n) (l := ps) HR1.out (.inl (by rw [HQ.out]; exact hq1))))
        have t10 : decide ((ps.length : Int) < qq) = true := decide_eq_true hq1
        clear hq1
        go_wp2_with fail
        go_quiet ((go_at_call 98; exact Calls.quiet_of_same (rquorum_eq HQ.out n1 n2 _)))
        go_wp2
        go_ret
        exact ⟨by rw [E.out]; rfl, below_drewN G1.out _⟩
      have t10 : decide ((ps.length : Int) < qq) = false := decide_eq_false hq1
      by_cases hq2 : n < (ps.length : Int)
      · have E := Lib.hid (Vt.may_noP (v := (a, r, bs, ps, x, y)) (Vt.mayP_short (n := n) (l := ps) HR1.out (.inr hq2)))
        have t11 : decide (n < (ps.length : Int)) = true := decide_eq_true hq2
        clear hq1 hq2
        go_wp2_with fail
        go_quiet ((go_at_call 98; exact Calls.quiet_of_same (rquorum_eq HQ.out n1 n2 _)))
        go_wp2
        go_ret
        exact ⟨by rw [E.out]; rfl, below_drewN G1.out _⟩
      have t11 : decide (n < (ps.length : Int)) = false := decide_eq_false hq2
      have HY := Lib.hid (fun h => Vt.may_S (v := (a, r, bs, ps, x, y)) Z0.out HAR.out.1 HAR.out.2.1 MB.out (Vt.mayP_yes (l := ps) HR1.out (show Se.quorum n ≤ ps.length by rw [HQ.out]; omega) (show (ps.length : Int) ≤ n by omega) h))
      have HNo := Lib.hid (fun i h => Vt.may_noP (v := (a, r, bs, ps, x, y)) (Vt.mayP_no (n := n) (l := ps) HR1.out i h))
      clear hq1 hq2
      rcases HP.out with ⟨aa, cap, he, hps⟩ | ⟨b, off, cap, he, hc⟩
      · injection he with he1 _ he2
        subst he1
        subst he2
        subst hps
        have E := Lib.hid (HY.out (fun i h => absurd h (by simp)))
        have t12 : decide (0 < qq) = false := by simpa using t10
        have t13 : decide (n < 0) = false := by simpa using t11
        clear HY HNo
        go_wp2_with fail
        go_quiet ((go_at_call 98; exact Calls.quiet_of_same (rquorum_eq HQ.out n1 n2 _)))
        go_wp2_with fail
        refine wp_loop_rounds 1 ?_
        rw [rounds_succ]
        go_wp2_with fail
        obtain ⟨em, hem⟩ : ∃ z, Vt.elemMay x y = z := ⟨_, rfl⟩
        obtain ⟨th, hth⟩ : ∃ z, Vt.third r = z := ⟨_, rfl⟩
        have HEM := Lib.hid hem
        have HTH := Lib.hid hth
        clear hem hth
        refine (relmay_eq HEM.out _).mono ?_
        rintro e w3 ⟨rfl, g3⟩
        have V3 := Lib.hid (VBox.kept (W := World.drewN _ _) V1.out g3)
        have G3 := Lib.hid (grow_trans (below_drewN G1.out _) g3)
        clear c0 c1 c2 c3 c4 c5
        obtain ⟨k0, k1, k2, k3, k4, k5⟩ := V3.out.cells
        clear g3
        cases em with
        | false =>
          have E2 := Lib.hid (E.out.trans (Vt.mayS_no HEM.out))
          go_wp2_with fail
          refine (rthird_eq HTH.out _).mono ?_
          rintro e w4 ⟨rfl, rfl⟩
          go_wp2
          go_ret
          exact ⟨by rw [E2.out]; rfl, G3.out⟩
        | true =>
        cases th with
        | true =>
          have E2 := Lib.hid (E.out.trans (Vt.mayS_third HEM.out HTH.out))
          go_wp2_with fail
          refine (rthird_eq HTH.out _).mono ?_
          rintro e w4 ⟨rfl, rfl⟩
          go_wp2
          go_ret
          exact ⟨by rw [E2.out]; rfl, G3.out⟩
        | false =>
        by_cases hx : x = 0
        · by_cases hy : y = 0
          · have E2 := Lib.hid ((E.out.trans (Vt.mayS_zero HEM.out HTH.out)).trans (show ((x == 0) && (y == 0)) = true by rw [hx, hy]; rfl))
            have tx : (x == 0) = true := beq_iff_eq.2 hx
            have ty : (y == 0) = true := beq_iff_eq.2 hy
            clear hx hy
            go_wp2_with fail
            refine (rthird_eq HTH.out _).mono ?_
            rintro e w4 ⟨rfl, rfl⟩
            go_wp2
            go_ret
            exact ⟨by rw [E2.out]; rfl, G3.out⟩
          · have E2 := Lib.hid ((E.out.trans (Vt.mayS_zero HEM.out HTH.out)).trans (show ((x == 0) && (y == 0)) = false by rw [beq_eq_false_iff_ne.2 hy, Bool.and_false]))
            have tx : (x == 0) = true := beq_iff_eq.2 hx
            have ty : (y == 0) = false := beq_eq_false_iff_ne.2 hy
            clear hx hy
            go_wp2_with fail
            refine (rthird_eq HTH.out _).mono ?_
            rintro e w4 ⟨rfl, rfl⟩
            go_wp2
            go_ret
            exact ⟨by rw [E2.out]; rfl, G3.out⟩
        · have E2 := Lib.hid ((E.out.trans (Vt.mayS_zero HEM.out HTH.out)).trans (show ((x == 0) && (y == 0)) = false by rw [beq_eq_false_iff_ne.2 hx, Bool.false_and]))
          have tx : (x == 0) = false := beq_eq_false_iff_ne.2 hx
          clear hx
          go_wp2_with fail
          refine (rthird_eq HTH.out _).mono ?_
          rintro e w4 ⟨rfl, rfl⟩
          go_wp2
          go_ret
          exact ⟨by rw [E2.out]; rfl, G3.out⟩
      injection he with he1 _ he2
      subst he1
      subst he2
      have HC := Lib.hid hc
      clear hc
      go_wp2_with fail
      go_quiet ((go_at_call 98; exact Calls.quiet_of_same (rquorum_eq HQ.out n1 n2 _)))
      go_wp2_with fail
      go_loopw [8] (fun i wq => ∃ k : Nat, i = .int .i64 k ∧ k ≤ ps.length ∧ (∀ j, j < k → Vt.okP ps j) ∧ ZB wq) (fun i _ => ps.length - (intOf i).toNat)
      case atStart => exact ⟨0, rfl, by omega, fun _ h => absurd h (by omega), (HZB.out _).2 ⟨V1.out.kept (grow_draws _ _), below_drewN G1.out _⟩⟩
      case round =>
        obtain ⟨k, rfl, hk, hn, hzb⟩ := hrel
        have HO := Lib.hid hn
        obtain ⟨vb, gb⟩ := (HZB.out _).1 hzb
        have V2 := Lib.hid vb
        have G2 := Lib.hid gb
        have HZ2 := Lib.hid (fun m => (HZB.out _).2 ⟨vb.kept (grow_draws _ m), below_drewN gb m⟩)
        have HZ3 := Lib.hid hzb
        clear c0 c1 c2 c3 c4 c5
        obtain ⟨c0, c1, c2, c3, c4, c5⟩ := vb.cells
        clear hn hzb vb gb
        by_cases hlt : k < ps.length
        · have c6 := below_cell G2.out (HC.out k hlt)
          by_cases e32 : ps[k].length = 32
          · have t4' : ((ps[k].length : Int) != 32) = false := by rw [e32]; rfl
            by_cases e0 : k = 0
            · subst e0
              have hok : ∀ j, j < 0 + 1 → Vt.okP ps j := fun j hj => by
                obtain rfl : j = 0 := by omega
                exact fun _ => ⟨e32, fun h => absurd h (by omega)⟩
              have HK := Lib.hid hok
              simp only [Nat.add_zero] at c6
              clear hok e32
              generalize ps[0] = z at *
              go_wp2_with fail
              go_quiet (fail)
              go_wp2
              go_roundw
              case rel => exact ⟨0 + 1, by go_num, hlt, HK.out, HZ2.out _⟩
              case measure => simp [intOf]; omega
            · obtain ⟨j, rfl⟩ : ∃ j, k = j + 1 := ⟨k - 1, by omega⟩
              have c7 := below_cell G2.out (HC.out j (by omega))
              have hj1 : decide ((0 : Int) < (j : Int) + 1) = true := decide_eq_true (by omega)
              have hj2 : (j : Int) + 1 < (ps.length : Int) := by omega
              have hj3 : (0 : Int) ≤ (j : Int) := by omega
              have hj4 : (j : Int) < (ps.length : Int) := by omega
              have hj5 : (0 : Int) ≤ (j : Int) + 1 := by omega
              have hj6 : (j : Int).toNat = j := by omega
              have hj7 : IntKind.i64.wrap (j : Int) = (j : Int) := IntWalk.i64_in _ ⟨by omega, by omega⟩
              have hj8 : IntKind.i64.wrap ((j : Int) + 1 - 1) = (j : Int) := by rw [Int.add_sub_cancel]; exact hj7
              have hj9 : ((j : Int) + 1).toNat = j + 1 := by omega
              have hj10 : IntKind.i64.wrap ((j : Int) + 1) = (j : Int) + 1 := IntWalk.i64_in _ ⟨by omega, by omega⟩
              have e31 : ps[j].length = 32 := (HO.out j (by omega) (by omega)).1
              obtain ⟨lz, hls⟩ : ∃ lz, Dg.less ps[j] ps[j + 1] = lz := ⟨_, rfl⟩
              have hL := fun W => vless_eq hls (by omega) (by omega) W
              have HL := Lib.hid hL
              cases lz with
              | true =>
                have hok : ∀ i, i < j + 1 + 1 → Vt.okP ps i := fun i hi => by
                  by_cases e : i = j + 1
                  · subst e; exact fun _ => ⟨e32, fun _ => hls⟩
                  · exact HO.out i (by omega)
                have HK := Lib.hid hok
                clear hok e32 hls e31 hL e0
                generalize ps[j + 1] = z at *
                generalize ps[j] = z' at *
                go_wp2_with fail
                go_quiet ((go_at_call 99; exact Calls.quiet_of (HL.out _)))
                go_wp2
                go_roundw
                case rel => exact ⟨j + 1 + 1, by go_num, by omega, HK.out, HZ2.out _⟩
                case measure => simp [intOf]; omega
              | false =>
                have E := Lib.hid (HNo.out (j + 1) (Vt.okP_less hlt (by omega) hls))
                clear e32 hls e31 hL e0
                generalize ps[j + 1] = z at *
                generalize ps[j] = z' at *
                go_wp2_with fail
                go_quiet ((go_at_call 99; exact Calls.quiet_of (HL.out _)))
                go_wp2
                go_ret
                exact ⟨by rw [E.out]; rfl, below_drewN G2.out _⟩
          · have t4' : ((ps[k].length : Int) != 32) = true := by rw [bne_iff_ne]; omega
            have E := Lib.hid (HNo.out k (Vt.okP_len hlt e32))
            clear e32
            generalize ps[k] = z at *
            go_wp2
            go_ret
            exact ⟨by rw [E.out]; rfl, G2.out⟩
        · obtain rfl : k = ps.length := by omega
          have E := Lib.hid (HY.out HO.out)
          go_wp2_with fail
          obtain ⟨em, hem⟩ : ∃ z, Vt.elemMay x y = z := ⟨_, rfl⟩
          obtain ⟨th, hth⟩ : ∃ z, Vt.third r = z := ⟨_, rfl⟩
          have HEM := Lib.hid hem
          have HTH := Lib.hid hth
          clear hem hth
          refine (relmay_eq HEM.out _).mono ?_
          rintro e w3 ⟨rfl, g3⟩
          have V3 := Lib.hid (VBox.kept V2.out g3)
          have G3 := Lib.hid (grow_trans G2.out g3)
          clear c0 c1 c2 c3 c4 c5
          obtain ⟨k0, k1, k2, k3, k4, k5⟩ := V3.out.cells
          clear g3
          cases em with
          | false =>
            have E2 := Lib.hid (E.out.trans (Vt.mayS_no HEM.out))
            go_wp2_with fail
            refine (rthird_eq HTH.out _).mono ?_
            rintro e w4 ⟨rfl, rfl⟩
            go_wp2
            go_ret
            exact ⟨by rw [E2.out]; rfl, G3.out⟩
          | true =>
          cases th with
          | true =>
            have E2 := Lib.hid (E.out.trans (Vt.mayS_third HEM.out HTH.out))
            go_wp2_with fail
            refine (rthird_eq HTH.out _).mono ?_
            rintro e w4 ⟨rfl, rfl⟩
            go_wp2
            go_ret
            exact ⟨by rw [E2.out]; rfl, G3.out⟩
          | false =>
          by_cases hx : x = 0
          · by_cases hy : y = 0
            · have E2 := Lib.hid ((E.out.trans (Vt.mayS_zero HEM.out HTH.out)).trans (show ((x == 0) && (y == 0)) = true by rw [hx, hy]; rfl))
              have tx : (x == 0) = true := beq_iff_eq.2 hx
              have ty : (y == 0) = true := beq_iff_eq.2 hy
              clear hx hy
              go_wp2_with fail
              refine (rthird_eq HTH.out _).mono ?_
              rintro e w4 ⟨rfl, rfl⟩
              go_wp2
              go_ret
              exact ⟨by rw [E2.out]; rfl, G3.out⟩
            · have E2 := Lib.hid ((E.out.trans (Vt.mayS_zero HEM.out HTH.out)).trans (show ((x == 0) && (y == 0)) = false by rw [beq_eq_false_iff_ne.2 hy, Bool.and_false]))
              have tx : (x == 0) = true := beq_iff_eq.2 hx
              have ty : (y == 0) = false := beq_eq_false_iff_ne.2 hy
              clear hx hy
              go_wp2_with fail
              refine (rthird_eq HTH.out _).mono ?_
              rintro e w4 ⟨rfl, rfl⟩
              go_wp2
              go_ret
              exact ⟨by rw [E2.out]; rfl, G3.out⟩
          · have E2 := Lib.hid ((E.out.trans (Vt.mayS_zero HEM.out HTH.out)).trans (show ((x == 0) && (y == 0)) = false by rw [beq_eq_false_iff_ne.2 hx, Bool.false_and]))
            have tx : (x == 0) = false := beq_eq_false_iff_ne.2 hx
            clear hx
            go_wp2_with fail
            refine (rthird_eq HTH.out _).mono ?_
            rintro e w4 ⟨rfl, rfl⟩
            go_wp2
            go_ret
            exact ⟨by rw [E2.out]; rfl, G3.out⟩

end Go.Proofs.Ytbkpekpajeaacaa
/- A vertex that came in; the document's example. -/
namespace Go.Proofs.Ytbkpekpajeaacaa
open Go.RowKit Go.ChangeShapes Go.WideShapes Go.ChangeAt
set_option maxRecDepth 100000

section
variable {H : Type} {enc : TypeId × Value → H} {W : World}
/-- A batch in its cells. -/
def BatIn (W : World) (b : Bt.Bat) (cs : List Value) (d : DataW H) : Prop := ∃ u, cs = [.int .i64 b.1, .int .i64 b.2.1, u] ∧ TxAt W u b.2.2 ∧ ((DataW.weights Try.prog 105 d).all (· ≤ reachBytes) = true → b.2.2.length ≤ 8796093021952)
theorem elem_bat (n : Nat) (cs : List Value) (x : DataW H × List MemPlace) (hl : cs.length = 3) (h : DataW.trod enc Try.prog W 0 (fun _ => true) true n 105 cs = some x) : ∃ b, BatIn W b cs x.1 := by
  obtain ⟨xs, m, _, rfl, _, hlen, hf⟩ := DataW.trod_struct Try.underlying105 h
  have k1 : Try.prog.cellsOf 3 = 1 := by kernel_rfl
  have k2 : Try.prog.cellsOf 23 = 1 := by kernel_rfl
  match cs, hl, xs, hlen with
  | [a, b, c], _, [y0, y1, y2], _ =>
    have h0 := hf 0 _ rfl
    have h1 := hf 1 _ rfl
    have h2 := hf 2 _ rfl
    obtain ⟨i, _, _, rfl, _⟩ := trod_i64 (v := a) (y := y0) Try.underlying3 (by simpa [k1] using h0)
    obtain ⟨j, _, _, rfl, _⟩ := trod_i64 (v := b) (y := y1) Try.underlying3 (by simpa [k1] using h1)
    have h2' : DataW.trod enc Try.prog W 0 (fun _ => true) true m 23 [c] = some y2 := by simpa [k2] using h2
    obtain ⟨ls, hv, _⟩ := trod_txsD Try.underlying23 h2'
    refine ⟨(i, j, ls), c, rfl, hv, fun hs => ?_⟩
    have hs2 : (DataW.weights Try.prog 23 y2.1).all (· ≤ reachBytes) = true := by
      simp only [List.map_cons, List.map_nil, DataW.weights, Try.underlying105] at hs
      exact sized_at hs (j := 2) rfl rfl
    obtain ⟨ls', hv', hl', _⟩ := trod_txsR Try.underlying23 h2' hs2
    obtain ⟨a1, c1, e1⟩ := hv.len
    obtain ⟨a2, c2, e2⟩ := hv'.len
    rw [e1] at e2
    injection e2 with _ e3 _
    simp only []
    omega
theorem bts_of {w : World} {b : Nat} : ∀ (l : List Bt.Bat) (off : Nat), (∀ k (h : k < l.length), ∃ u, w.cell? ⟨b, off + k * 3, none⟩ = some (.int .i64 l[k].1) ∧ w.cell? ⟨b, off + k * 3 + 1, none⟩ = some (.int .i64 l[k].2.1) ∧ w.cell? ⟨b, off + k * 3 + 2, none⟩ = some u ∧ TxAt w u l[k].2.2) →
    ∃ cs : List Value, cs.length = l.length * 3 ∧ (∀ i (h : i < cs.length), w.cell? ⟨b, off + i, none⟩ = some cs[i]) ∧ BtsM w.heap.size w.heap.size w cs l
  | [], _, _ => ⟨[], rfl, fun i h => absurd h (by simp), trivial⟩
  | x :: l, off, h => by
    obtain ⟨u, h0, h1, h2, ht⟩ := h 0 (by simp)
    obtain ⟨cs, hl, hc, hb⟩ := bts_of l (off + 3) (fun k hk => by
      obtain ⟨u, g0, g1, g2, gt⟩ := h (k + 1) (by simp; omega)
      refine ⟨u, ?_, ?_, ?_, ?_⟩
      · rw [show off + 3 + k * 3 = off + (k + 1) * 3 by omega]; exact g0
      · rw [show off + 3 + k * 3 + 1 = off + (k + 1) * 3 + 1 by omega]; exact g1
      · rw [show off + 3 + k * 3 + 2 = off + (k + 1) * 3 + 2 by omega]; exact g2
      · exact gt)
    refine ⟨.int .i64 x.1 :: .int .i64 x.2.1 :: u :: cs, by simp [hl]; omega, fun i hi => ?_, rfl, rfl, TxM.of ht, hb⟩
    match i, hi with
    | 0, _ => simpa using h0
    | 1, _ => simpa using h1
    | 2, _ => simpa using h2
    | i + 3, hi =>
      have := hc i (by simpa using hi)
      rw [show off + (i + 3) = off + 3 + i by omega, this]
      rfl
theorem trod_bats {n : Nat} {v : Value} {y : DataW H × List MemPlace} (h : DataW.trod enc Try.prog W 0 (fun _ => true) true n 22 [v] = some y) (hsz : (DataW.weights Try.prog 22 y.1).all (· ≤ reachBytes) = true) :
    ∃ l, BtsAt W v l ∧ l.length ≤ 8796093021952 ∧ Vt.Small l := by
  rcases open_rows (K := 3) (fun (a : Bt.Bat) cs (d : DataW H) => BatIn W a cs d) Try.underlying22 (by kernel_rfl) (by decide) elem_bat h with ⟨rfl, _⟩ | ⟨ad, cap, l, D, sp, rfl, h1, h2, hs, hy, hD, hc⟩
  · exact ⟨[], ⟨[], .inl ⟨none, _, rfl, rfl⟩, trivial⟩, by simp, fun b hb => by cases hb⟩
  · rw [hy] at hsz
    have hlen := open_len (B := 40) Try.underlying22 (by kernel_rfl) hsz
    refine ⟨l, ?_, by omega, fun b hbl => ?_⟩
    · by_cases h0 : l.length = 0
      · obtain rfl : l = [] := List.length_eq_zero_iff.1 h0
        exact ⟨[], .inl ⟨some ad, _, rfl, rfl⟩, trivial⟩
      · obtain ⟨b, off, spot⟩ := ad
        obtain rfl : spot = none := hs (by omega)
        have ha : ∀ j, (⟨b, off, none⟩ : Addr).add j = ⟨b, off + j, none⟩ := fun j => by unfold Addr.add; split <;> simp_all
        obtain ⟨cs, e1, e2, e3⟩ := bts_of (b := b) l off (fun k hk => by
          obtain ⟨cs, _, ⟨u, rfl, ht, _⟩, hcell⟩ := hc k hk (by rw [hD]; exact hk)
          have c0 := hcell 0 _ rfl
          have c1 := hcell 1 _ rfl
          have c2 := hcell 2 _ rfl
          rw [ha] at c0 c1 c2
          exact ⟨u, c0, c1, c2, ht⟩)
        exact ⟨cs, .inr ⟨b, off, l.length, cap, rfl, e1, e2⟩, e3⟩
    · obtain ⟨k, hk, rfl⟩ := List.getElem_of_mem hbl
      obtain ⟨cs, _, ⟨u, _, _, q1⟩, _⟩ := hc k hk (by rw [hD]; exact hk)
      have hw : (DataW.weights Try.prog 105 D[k]).all (· ≤ reachBytes) = true := by
        refine List.all_eq_true.2 fun m hm => ?_
        simp only [DataW.weights, Try.underlying22, List.all_cons, List.all_append, Bool.and_eq_true] at hsz
        exact List.all_eq_true.1 hsz.2.1 m (weights_in (List.getElem_mem (show k < D.length by rw [hD]; exact hk)) hm)
      have := q1 hw
      omega
/-- A vertex in its cells. -/
theorem elem_vtx (n : Nat) (cs : List Value) (x : DataW H × List MemPlace) (hl : cs.length = 6) (h : DataW.trod enc Try.prog W 0 (fun _ => true) true n 27 cs = some x) (hsz : (DataW.weights Try.prog 27 x.1).all (· ≤ reachBytes) = true) :
    ∃ (v : Vt.Vtx) (bv pv : Value), cs = [.int .i64 v.1, .int .i64 v.2.1, bv, pv, .int .i64 v.2.2.2.2.1, .int .i64 v.2.2.2.2.2] ∧ BtsAt W bv v.2.2.1 ∧ TxAt W pv v.2.2.2.1 ∧ v.2.2.1.length ≤ 8796093021952 ∧ Vt.Small v.2.2.1 ∧ v.2.2.2.1.length ≤ 8796093021952 := by
  obtain ⟨xs, m, _, rfl, _, hlen, hf⟩ := DataW.trod_struct Try.underlying27 h
  have k1 : Try.prog.cellsOf 3 = 1 := by kernel_rfl
  have k2 : Try.prog.cellsOf 23 = 1 := by kernel_rfl
  have k3 : Try.prog.cellsOf 22 = 1 := by kernel_rfl
  have k4 : Try.prog.cellsOf 25 = 2 := by kernel_rfl
  match cs, hl, xs, hlen with
  | [a, b, c, d, e, f], _, [y0, y1, y2, y3, y4], _ =>
    have h0 := hf 0 _ rfl
    have h1 := hf 1 _ rfl
    have h2 := hf 2 _ rfl
    have h3 := hf 3 _ rfl
    have h4 := hf 4 _ rfl
    obtain ⟨i, _, _, rfl, _⟩ := trod_i64 (v := a) (y := y0) Try.underlying3 (by simpa [k1] using h0)
    obtain ⟨j, _, _, rfl, _⟩ := trod_i64 (v := b) (y := y1) Try.underlying3 (by simpa [k1] using h1)
    simp only [List.map_cons, List.map_nil, DataW.weights, Try.underlying27] at hsz
    have s2 : (DataW.weights Try.prog 22 y2.1).all (· ≤ reachBytes) = true := sized_at hsz (j := 2) rfl rfl
    have s3 : (DataW.weights Try.prog 23 y3.1).all (· ≤ reachBytes) = true := sized_at hsz (j := 3) rfl rfl
    obtain ⟨bs, hb, lb, hs⟩ := trod_bats (v := c) (y := y2) (by simpa [k3] using h2) s2
    obtain ⟨ps, hp, lp, _⟩ := trod_txsR (v := d) (y := y3) Try.underlying23 (by simpa [k2] using h3) s3
    obtain ⟨zs, _, _, rfl, _, hzl, hzf⟩ := DataW.trod_struct Try.underlying25 (show DataW.trod enc Try.prog W 0 (fun _ => true) true m 25 [e, f] = some y4 by simpa [k4] using h4)
    match zs, hzl with
    | [z0, z1], _ =>
      have g0 := hzf 0 _ rfl
      have g1 := hzf 1 _ rfl
      obtain ⟨x0, _, _, rfl, _⟩ := trod_i64 (v := e) (y := z0) Try.underlying3 (by simpa [k1] using g0)
      obtain ⟨x1, _, _, rfl, _⟩ := trod_i64 (v := f) (y := z1) Try.underlying3 (by simpa [k1] using g1)
      exact ⟨(i, j, bs, ps, x0, x1), c, d, rfl, hb, hp, lb, hs, lp⟩
theorem open_vtx {base : Nat} {v : Value} {d : DataW H} {p : List MemPlace} (o : Value.okWide Try.prog W .any base 27 v) (h : DataW.Trod enc Try.prog W 0 (fun _ => true) true 27 v d p) (hsz : (DataW.weights Try.prog 27 d).all (· ≤ reachBytes) = true) :
    ∃ (u : Vt.Vtx) (bv pv : Value), v = vtxV u.1 u.2.1 bv pv u.2.2.2.2.1 u.2.2.2.2.2 ∧ BtsAt W bv u.2.2.1 ∧ TxAt W pv u.2.2.2.1 ∧ u.2.2.1.length ≤ 8796093021952 ∧ Vt.Small u.2.2.1 ∧ u.2.2.2.1.length ≤ 8796093021952 := by
  obtain ⟨cs, rfl, hs⟩ := okWide_struct Try.underlying27 o
  obtain ⟨n, hn⟩ := h
  have hC : Try.prog.cellsOf 27 = 6 := by kernel_rfl
  obtain ⟨u, bv, pv, e, r⟩ := elem_vtx n cs.toList (d, p) (by simpa using hs.trans hC) (by simpa [Value.cells] using hn) hsz
  refine ⟨u, bv, pv, ?_, r⟩
  obtain ⟨l⟩ := cs
  simp only at e
  rw [e]
end
end Go.Proofs.Ytbkpekpajeaacaa
/- How great a vertex is. -/
namespace Vt
theorem ex_may : may (1, 1, [], [], 0, 0) 4 = true := by
  rw [may_S (v := (1, 1, [], [], 0, 0)) (n := 4) (by decide) (by simp) (by simp) (by decide) (by simp only []; rw [mayP_one]; decide)]
  decide
theorem ex_bytes : bytesR (1, 1, [], [], 0, 0) 4 = ([1, 1, 1, 1, 0, 0, 0, 0], 0) := by
  rw [bytesR_ok ex_may]; decide
structure Mod (v : Vtx) : Prop where
  b : v.2.2.1.length ≤ 140737488351232
  s : Small v.2.2.1
  p : v.2.2.2.1.length ≤ 140737488351232
theorem mod_may {v : Vtx} {n : Int} (h : may v n = true) : Mod v := by
  have f := fits h
  have f1 := f.b1
  have f2 := f.p1
  have f3 := f.n2
  exact ⟨by omega, fun b hb => by have := (Bt.may_iff b).1 (f.b2 b hb); omega, by omega⟩
theorem mod_take (s : List UInt8) (n : Int) : Mod (take s n).1 := by
  rcases take_or s n with ⟨e, _⟩ | ⟨v, e, h, _⟩
  · rw [e]; exact ⟨by simp [none], fun b hb => by simp [none] at hb, by simp [none]⟩
  · rw [e]; exact mod_may h
end Vt
