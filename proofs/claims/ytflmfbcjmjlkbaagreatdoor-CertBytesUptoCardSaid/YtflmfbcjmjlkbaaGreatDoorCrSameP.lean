/- Packages vertex and cert as they landed: Same. -/
import Derived.Test.YtflmfbcjmjlkbaaGreatDoorTkR
import Derived.Test.YtflmfbcjmjlkbaaGreatDoorCrTake
namespace Go.Proofs.YtflmfbcjmjlkbaaGreatDoor
open Go.RowKit
set_option maxRecDepth 100000
attribute [local go_sem] eq_el guard_el
theorem pbsame_eq {a b : Bt.Bat} {va vb : Value} {r : Bool} (h : (a == b) = r) (w : World) (ha : TxAt w va a.2.2) (hb : TxAt w vb b.2.2) (la : a.2.2.length ≤ 140737488351232) :
    Calls Tryz.prog 55 #[batV a.1 a.2.1 va, batV b.1 b.2.1 vb] w fun e w' => e = .returned (.bool r) ∧ Below w.heap.size w w' := by subst h; exact pbsame a.1 a.2.1 b.1 b.2.1 va vb a.2.2 b.2.2 w ha hb la
theorem pequal_eq {va vb : Value} {a b : List (List UInt8)} {r : Bool} (h : (a == b) = r) (w : World) (ha : TxAt w va a) (hb : TxAt w vb b) (la : a.length ≤ 140737488351232) :
    Calls Tryz.prog 56 #[va, vb] w fun e w' => e = .returned (.bool r) ∧ Below w.heap.size w w' := by subst h; exact pequal va vb a b w ha hb la

set_option maxHeartbeats 2000000 in
theorem pequalB (va vb : Value) (a b : List Bt.Bat) (w : World) (ha : BtsAt w va a) (hb : BtsAt w vb b) (la : a.length ≤ 140737488351232) (hs : Vt.Small a) :
    Calls Tryz.prog 54 #[va, vb, .func (.func 55) #[] #[]] w fun e w' => e = .returned (.bool (a == b)) ∧ Below w.heap.size w w' := by
  by_cases hl : a.length = b.length
  · rcases ha.cells with ⟨rfl, aa, ca, rfl⟩ | ⟨h0, ba, oa, ca, rfl, hca⟩
    · obtain rfl : b = [] := List.length_eq_zero_iff.1 (by rw [← hl]; rfl)
      obtain ⟨ab, cb, rfl⟩ := hb.len
      clear ha hb
      go_enter Tryz.func54, Tryz.ntmps54
      go_wp2_with fail
      refine wp_loop_rounds 1 ?_
      rw [rounds_succ]
      go_wp2
      go_ret
      exact ⟨rfl, Below.refl _ _⟩
    rcases hb.cells with ⟨rfl, ab, cb, rfl⟩ | ⟨h1, bb, ob, cb, rfl, hcb⟩
    · rw [hl] at h0; simp at h0
    have HCA := Lib.hid hca
    have HCB := Lib.hid hcb
    have HS := Lib.hid hs
    obtain ⟨N, hN⟩ : ∃ N, a.length = N := ⟨_, rfl⟩
    have hNb : b.length = N := by omega
    rw [hN, hNb]
    have HNa := Lib.hid hN
    have HNb := Lib.hid hNb
    have hN47 : N ≤ 140737488351232 := by omega
    clear ha hb hca hcb hs hl h0 h1 hN hNb la
    go_enter Tryz.func54, Tryz.ntmps54
    go_wp2_with fail
    go_loopw [17] (fun i wr => ∃ k : Nat, i = .int .i64 k ∧ k ≤ N ∧ a.take k = b.take k ∧ Below w.heap.size w wr) (fun i _ => N - (intOf i).toNat)
    case atStart => exact ⟨0, rfl, by omega, by simp, Below.refl _ _⟩
    case round =>
      obtain ⟨k, rfl, hk, ht, hbel⟩ := hrel
      have HT := Lib.hid ht
      have HBL := Lib.hid hbel
      clear ht hbel
      by_cases hlt : k < N
      · have hka : k < a.length := by rw [HNa.out]; exact hlt
        have hkb : k < b.length := by rw [HNb.out]; exact hlt
        obtain ⟨ua, p0, p1, p2, hua⟩ := HCA.out k hka
        obtain ⟨ub, q0, q1, q2, hub⟩ := HCB.out k hkb
        have hsm := HS.out _ (List.getElem_mem hka)
        obtain ⟨z, hz⟩ : ∃ z, (a[k] == b[k]) = z := ⟨_, rfl⟩
        have hyes : z = true → a.take (k + 1) = b.take (k + 1) := fun h => by
          rw [h, beq_iff_eq] at hz
          rw [List.take_succ_eq_append_getElem hka, List.take_succ_eq_append_getElem hkb, HT.out, hz]
        have hno : z = false → (a == b) = false := fun h => by
          rw [h, beq_eq_false_iff_ne] at hz
          rw [beq_eq_false_iff_ne]
          intro e
          subst e
          exact hz rfl
        have HYES := Lib.hid hyes
        have HNO := Lib.hid hno
        have HZ := Lib.hid hz
        have c0 := below_cell HBL.out p0
        have c1 := below_cell HBL.out p1
        have c2 := below_cell HBL.out p2
        have e0 := below_cell HBL.out q0
        have e1 := below_cell HBL.out q1
        have e2 := below_cell HBL.out q2
        have HUA := Lib.hid hua
        have HUB := Lib.hid hub
        obtain ⟨xa, ya, rfl⟩ := hua.len
        obtain ⟨xb, yb, rfl⟩ := hub.len
        clear hyes hno hz p0 p1 p2 q0 q1 q2 hua hub
        generalize a[k] = A at *
        generalize b[k] = B at *
        obtain ⟨o, q, m⟩ := A
        obtain ⟨o', q', m'⟩ := B
        simp only [iv] at c0 c1 c2 e0 e1 e2 HUA HUB hsm
        have f0 := below_cell ((Below.refl wr.heap.size wr).alloc (Nat.le_refl _) (.cells #[.int .i64 o, .int .i64 q, .slice xa m.length ya] 73)) e0
        have f1 := below_cell ((Below.refl wr.heap.size wr).alloc (Nat.le_refl _) (.cells #[.int .i64 o, .int .i64 q, .slice xa m.length ya] 73)) e1
        have f2 := below_cell ((Below.refl wr.heap.size wr).alloc (Nat.le_refl _) (.cells #[.int .i64 o, .int .i64 q, .slice xa m.length ya] 73)) e2
        have hgg : Below wr.heap.size wr ((wr.alloc (.cells #[.int .i64 o, .int .i64 q, .slice xa m.length ya] 73)).alloc (.cells #[.int .i64 o', .int .i64 q', .slice xb m'.length yb] 73)) := ((Below.refl _ _).alloc (Nat.le_refl _) _).alloc (by simp) _
        have HGG := Lib.hid (grow_trans HBL.out hgg)
        go_wp2_with fail
        refine (pbsame_eq (a := (o, q, m)) (b := (o', q', m')) HZ.out _ (HUA.out.below HGG.out) (HUB.out.below HGG.out) hsm).mono ?_
        rintro e w1 ⟨rfl, g1⟩
        have G2 := Lib.hid (grow_trans HGG.out g1)
        clear g1 f0 f1 f2 c0 c1 c2 e0 e1 e2 hgg
        cases z with
        | true =>
          have HY2 := Lib.hid (HYES.out rfl)
          go_wp2
          go_roundw
          case rel => exact ⟨k + 1, by go_num, hlt, HY2.out, G2.out⟩
          case measure => simp [intOf]; omega
        | false =>
          have HN2 := Lib.hid (HNO.out rfl)
          go_wp2
          go_ret
          exact ⟨by rw [HN2.out]; rfl, G2.out⟩
      · obtain rfl : k = N := by omega
        have hf : (a == b) = true := by
          rw [beq_iff_eq]
          have e := HT.out
          rwa [List.take_of_length_le (by rw [HNa.out]; omega), List.take_of_length_le (by rw [HNb.out]; omega)] at e
        have HF := Lib.hid hf
        clear hf
        go_wp2
        go_ret
        exact ⟨by rw [HF.out]; rfl, HBL.out⟩
  · obtain ⟨aa, ca, rfl⟩ := ha.len
    obtain ⟨ab, cb, rfl⟩ := hb.len
    have hne : ((a.length : Int) != (b.length : Int)) = true := by rw [bne_iff_ne]; omega
    have hf : (a == b) = false := by rw [beq_eq_false_iff_ne]; intro e; exact hl (by rw [e])
    have HF := Lib.hid hf
    clear ha hb hl hf
    go_enter Tryz.func54, Tryz.ntmps54
    go_wp2
    go_ret
    exact ⟨by rw [HF.out]; rfl, Below.refl _ _⟩
theorem pequalB_eq {va vb : Value} {a b : List Bt.Bat} {r : Bool} (h : (a == b) = r) (w : World) (ha : BtsAt w va a) (hb : BtsAt w vb b) (la : a.length ≤ 140737488351232) (hs : Vt.Small a) :
    Calls Tryz.prog 54 #[va, vb, .func (.func 55) #[] #[]] w fun e w' => e = .returned (.bool r) ∧ Below w.heap.size w w' := h ▸ pequalB va vb a b w ha hb la hs

set_option maxHeartbeats 4000000 in
theorem pvsame (u v : Vt.Vtx) (bu pu bv pv : Value) (w : World) (hbu : BtsAt w bu u.2.2.1) (hpu : TxAt w pu u.2.2.2.1) (hbv : BtsAt w bv v.2.2.1) (hpv : TxAt w pv v.2.2.2.1) (mu : Vt.Mod u) :
    Calls Tryz.prog 29 #[vtxV u.1 u.2.1 bu pu u.2.2.2.2.1 u.2.2.2.2.2, vtxV v.1 v.2.1 bv pv v.2.2.2.2.1 v.2.2.2.2.2] w fun e w' => e = .returned (.bool (u == v)) ∧ Below w.heap.size w w' := by
  have MU := Lib.hid mu
  rw [vt_beq]
  obtain ⟨a, r, bs, ps, x, y⟩ := u
  obtain ⟨a', r', bs', ps', x', y'⟩ := v
  simp only [] at hbu hpu hbv hpv ⊢
  have HBU := Lib.hid hbu
  have HPU := Lib.hid hpu
  have HBV := Lib.hid hbv
  have HPV := Lib.hid hpv
  obtain ⟨m1, m2, rfl⟩ := hbu.len
  obtain ⟨m3, m4, rfl⟩ := hpu.len
  obtain ⟨m5, m6, rfl⟩ := hbv.len
  obtain ⟨m7, m8, rfl⟩ := hpv.len
  have A0 := Lib.hid ((VBox.new w a r (.slice m1 bs.length m2) (.slice m3 ps.length m4) x y).alloc (.cells #[.int .i64 a', .int .i64 r', .slice m5 bs'.length m6, .slice m7 ps'.length m8, .int .i64 x', .int .i64 y'] 27))
  have hb0 := VBox.new (w.alloc (.cells #[.int .i64 a, .int .i64 r, .slice m1 bs.length m2, .slice m3 ps.length m4, .int .i64 x, .int .i64 y] 27)) a' r' (.slice m5 bs'.length m6) (.slice m7 ps'.length m8) x' y'
  rw [World.size_alloc] at hb0
  have B0 := Lib.hid hb0
  have HG := Lib.hid (show Below w.heap.size w ((w.alloc (.cells #[.int .i64 a, .int .i64 r, .slice m1 bs.length m2, .slice m3 ps.length m4, .int .i64 x, .int .i64 y] 27)).alloc (.cells #[.int .i64 a', .int .i64 r', .slice m5 bs'.length m6, .slice m7 ps'.length m8, .int .i64 x', .int .i64 y'] 27)) from ((Below.refl _ _).alloc (Nat.le_refl _) _).alloc (by simp) _)
  obtain ⟨c0, c1, c2, c3, c4, c5⟩ := A0.out.cells
  obtain ⟨d0, d1, d2, d3, d4, d5⟩ := B0.out.cells
  obtain ⟨zp, hzp⟩ : ∃ z, (ps == ps') = z := ⟨_, rfl⟩
  obtain ⟨zb, hzb⟩ : ∃ z, (bs == bs') = z := ⟨_, rfl⟩
  rw [hzp, hzb]
  have ZP := Lib.hid (fun w h1 h2 => pequal_eq (va := .slice m3 ps.length m4) (vb := .slice m7 ps'.length m8) hzp w h1 h2 mu.p)
  have ZB := Lib.hid (fun w h1 h2 => pequalB_eq (va := .slice m1 bs.length m2) (vb := .slice m5 bs'.length m6) hzb w h1 h2 mu.b mu.s)
  clear hb0 hbu hpu hbv hpv hzp hzb mu
  by_cases h0 : a = a'
  · subst h0
    by_cases h1 : r = r'
    · subst h1
      by_cases h2 : x = x'
      · subst h2
        by_cases h3 : y = y'
        · subst h3
          simp only [beq_self_eq_true, Bool.true_and, Bool.and_true]
          go_enter Tryz.func29, Tryz.ntmps29
          go_wp2_with fail
          refine (ZB.out _ (HBU.out.below HG.out) (HBV.out.below HG.out)).mono ?_
          rintro e w1 ⟨rfl, g1⟩
          have A1 := Lib.hid (A0.out.kept g1)
          have B1 := Lib.hid (B0.out.kept g1)
          have G1 := Lib.hid (HG.out.trans (g1.mono (by simp; omega)))
          clear g1 c0 c1 c2 c3 c4 c5 d0 d1 d2 d3 d4 d5
          obtain ⟨c0, c1, c2, c3, c4, c5⟩ := A1.out.cells
          obtain ⟨d0, d1, d2, d3, d4, d5⟩ := B1.out.cells
          cases zb with
          | false =>
            go_wp2
            go_ret
            exact ⟨rfl, G1.out⟩
          | true =>
            go_wp2_with fail
            refine (ZP.out _ (HPU.out.below G1.out) (HPV.out.below G1.out)).mono ?_
            rintro e w2 ⟨rfl, g2⟩
            have G2 := Lib.hid (grow_trans G1.out g2)
            clear g2
            go_wp2
            go_ret
            exact ⟨rfl, G2.out⟩
        · have t3 : (y == y') = false := beq_eq_false_iff_ne.2 h3
          simp only [t3, Bool.and_false]
          clear h3
          go_enter Tryz.func29, Tryz.ntmps29
          go_wp2
          go_ret
          exact ⟨rfl, HG.out⟩
      · have t2 : (x == x') = false := beq_eq_false_iff_ne.2 h2
        simp only [t2, Bool.false_and, Bool.and_false]
        clear h2
        go_enter Tryz.func29, Tryz.ntmps29
        go_wp2
        go_ret
        exact ⟨rfl, HG.out⟩
    · have t1 : (r == r') = false := beq_eq_false_iff_ne.2 h1
      simp only [t1, Bool.false_and, Bool.and_false]
      clear h1
      go_enter Tryz.func29, Tryz.ntmps29
      go_wp2
      go_ret
      exact ⟨rfl, HG.out⟩
  · have t0 : (a == a') = false := beq_eq_false_iff_ne.2 h0
    simp only [t0, Bool.false_and]
    clear h0
    go_enter Tryz.func29, Tryz.ntmps29
    go_wp2
    go_ret
    exact ⟨rfl, HG.out⟩
theorem pvsame_eq {u v : Vt.Vtx} {r : Bool} (h : (u == v) = r) (bu pu bv pv : Value) (w : World) (hbu : BtsAt w bu u.2.2.1) (hpu : TxAt w pu u.2.2.2.1) (hbv : BtsAt w bv v.2.2.1) (hpv : TxAt w pv v.2.2.2.1) (mu : Vt.Mod u) :
    Calls Tryz.prog 29 #[vtxV u.1 u.2.1 bu pu u.2.2.2.2.1 u.2.2.2.2.2, vtxV v.1 v.2.1 bv pv v.2.2.2.2.1 v.2.2.2.2.2] w fun e w' => e = .returned (.bool r) ∧ Below w.heap.size w w' := h ▸ pvsame u v bu pu bv pv w hbu hpu hbv hpv mu

set_option maxHeartbeats 4000000 in
theorem pcsame (p q : Cr.Prf) (bv pv bv' pv' : Value) (w : World) (hb : BtsAt w bv p.1.2.2.1) (hp : TxAt w pv p.1.2.2.2.1) (hb' : BtsAt w bv' q.1.2.2.1) (hp' : TxAt w pv' q.1.2.2.2.1) (mv : Vt.Mod p.1) :
    Calls Tryz.prog 10 #[prfV p.1.1 p.1.2.1 bv pv p.1.2.2.2.2.1 p.1.2.2.2.2.2 p.2, prfV q.1.1 q.1.2.1 bv' pv' q.1.2.2.2.2.1 q.1.2.2.2.2.2 q.2] w fun e w' => e = .returned (.bool (p == q)) ∧ Below w.heap.size w w' := by
  have MV := Lib.hid mv
  obtain ⟨v, x⟩ := p
  obtain ⟨v', x'⟩ := q
  simp only [] at hb hp hb' hp'
  obtain ⟨g, hg⟩ : ∃ g, (v == v') = g := ⟨_, rfl⟩
  have E := Lib.hid (show (((v, x) : Cr.Prf) == (v', x')) = (g && (x == x')) by rw [← hg]; rfl)
  have HS := Lib.hid hg
  have HB := Lib.hid hb
  have HP := Lib.hid hp
  have HB' := Lib.hid hb'
  have HP' := Lib.hid hp'
  obtain ⟨m1, m2, h1⟩ := hb.len
  obtain ⟨m3, m4, h2⟩ := hp.len
  obtain ⟨m5, m6, h3⟩ := hb'.len
  obtain ⟨m7, m8, h4⟩ := hp'.len
  obtain ⟨a, r, bs, ps, y, z⟩ := v
  obtain ⟨a', r', bs', ps', y', z'⟩ := v'
  simp only [] at h1 h2 h3 h4 HB HP HB' HP'
  subst h1 h2 h3 h4
  have A0 := Lib.hid ((PBox.new w a r (.slice m1 bs.length m2) (.slice m3 ps.length m4) y z x).alloc (.cells #[.int .i64 a', .int .i64 r', .slice m5 bs'.length m6, .slice m7 ps'.length m8, .int .i64 y', .int .i64 z', .int .u64 x'] 30))
  have hv1 := PBox.new (w.alloc (.cells #[.int .i64 a, .int .i64 r, .slice m1 bs.length m2, .slice m3 ps.length m4, .int .i64 y, .int .i64 z, .int .u64 x] 30)) a' r' (.slice m5 bs'.length m6) (.slice m7 ps'.length m8) y' z' x'
  rw [World.size_alloc] at hv1
  have D0 := Lib.hid hv1
  have HG := Lib.hid (show Below w.heap.size w ((w.alloc (.cells #[.int .i64 a, .int .i64 r, .slice m1 bs.length m2, .slice m3 ps.length m4, .int .i64 y, .int .i64 z, .int .u64 x] 30)).alloc (.cells #[.int .i64 a', .int .i64 r', .slice m5 bs'.length m6, .slice m7 ps'.length m8, .int .i64 y', .int .i64 z', .int .u64 x'] 30)) from ((Below.refl _ _).alloc (Nat.le_refl _) _).alloc (by simp) _)
  obtain ⟨c0, c1, c2, c3, c4, c5, c6⟩ := A0.out.cells
  obtain ⟨d0, d1, d2, d3, d4, d5, d6⟩ := D0.out.cells
  clear hb hp hb' hp' mv hv1 hg
  go_enter Tryz.func10, Tryz.ntmps10
  go_wp2_with fail
  refine (pvsame_eq (u := (a, r, bs, ps, y, z)) (v := (a', r', bs', ps', y', z')) HS.out _ _ _ _ _ (HB.out.below HG.out) (HP.out.below HG.out) (HB'.out.below HG.out) (HP'.out.below HG.out) MV.out).mono ?_
  rintro e w1 ⟨rfl, g1⟩
  have A1 := Lib.hid (A0.out.kept g1)
  have D1 := Lib.hid (D0.out.kept g1)
  have G1 := Lib.hid (HG.out.trans (g1.mono (by simp; omega)))
  clear g1 c0 c1 c2 c3 c4 c5 c6 d0 d1 d2 d3 d4 d5 d6
  obtain ⟨c0, c1, c2, c3, c4, c5, c6⟩ := A1.out.cells
  obtain ⟨d0, d1, d2, d3, d4, d5, d6⟩ := D1.out.cells
  have en : ((x : Int) == (x' : Int)) = (x == x') := by
    rw [Bool.eq_iff_iff, beq_iff_eq, beq_iff_eq]; omega
  cases g with
  | true =>
    go_wp2
    go_ret
    exact ⟨by rw [E.out, ← en]; rfl, G1.out⟩
  | false =>
    go_wp2
    go_ret
    exact ⟨by rw [E.out]; rfl, G1.out⟩
end Go.Proofs.YtflmfbcjmjlkbaaGreatDoor
