/- The document's Bytes and Take of proofs. -/
import Derived.Test.YtbkpekpajeaacaaTkR
import Derived.Test.YtbkpekpajeaacaaCrTake
import Derived.Test.YtbkpekpajeaacaaCrTakeMR
namespace Go.Proofs.Ytbkpekpajeaacaa
open Go.RowKit
set_option maxRecDepth 100000
attribute [local go_sem] ByteArray.mk_append_mk

set_option maxHeartbeats 4000000 in
theorem rctake (s : List UInt8) (n : Int) (hs : s.length ≤ 140737488351232) (n1 : -9223372036854775808 ≤ n) (n2 : n ≤ 9223372036854775807) (w : World) :
    Calls Try.prog 50 #[tx s, .int .i64 n] w (PT (Cr.take s n) w) := by
  obtain ⟨t, rest, e, hT⟩ : ∃ t rest e, Dg.takeText s 65536 = (t, rest, e) := ⟨_, _, _, rfl⟩
  have hrl := Dg.takeText_rest s 65536
  rw [hT] at hrl
  simp only [] at hrl
  obtain ⟨x, r2, e2, hN⟩ : ∃ x r2 e2, Dg.takeNum rest = (x, r2, e2) := ⟨_, _, _, rfl⟩
  have hxb := Dg.takeNum_bound rest
  rw [hN] at hxb
  simp only [] at hxb
  obtain ⟨en, hen⟩ : ∃ z, Cr.enough n x = z := ⟨_, rfl⟩
  have HT := Lib.hid (rtakeText_eq hT hs (by omega) (by omega))
  have HN := Lib.hid (rtakeNum_eq hN (by omega))
  have P0 := Lib.hid (PBox.new w 0 0 (.slice none 0 0) (.slice none 0 0) 0 0 0)
  have G0 := Lib.hid (show Below w.heap.size w (w.alloc (.cells #[.int .i64 0, .int .i64 0, .slice none 0 0, .slice none 0 0, .int .i64 0, .int .i64 0, .int .u64 0] 41)) from (Below.refl _ _).alloc (Nat.le_refl _) _)
  by_cases he : e = 0
  · subst he
    have HB2 := Lib.hid (fun h => Cr.take_bad2R (n := n) hT hN h)
    have HGD := Lib.hid (fun (h : e2 = 0) u (h4 : Vt.take t n = (u, 0)) (h5 : r2 = []) (h6 : en = 0) => Cr.take_goodR (n := n) hT (by rw [hN, h, h5]) (hen.trans h6) h4)
    have htl : t.length ≤ s.length := by
      have := congrArg List.length (Dg.takeText_back _ _ _ _ hT).1
      simp only [Dg.text, List.length_append] at this
      omega
    by_cases he2 : e2 = 0
    · subst he2
      by_cases hr2 : r2 = []
      · subst hr2
        obtain ⟨⟨u, ev⟩, hV⟩ : ∃ R, Vt.take t n = R := ⟨_, rfl⟩
        have HV := Lib.hid (rvtake_eq hV (by omega) n1 n2)
        by_cases hev : ev = 0
        · subst hev
          have hm : Vt.may u n = true := by
            rcases Vt.take_or t n with ⟨e, _⟩ | ⟨u', e, hm, _⟩
            · rw [hV] at e; simp [Vt.none] at e
            · rw [hV] at e
              simp only [Prod.mk.injEq, and_true] at e
              rw [e]
              exact hm
          have HF := Lib.hid (fun bv pv w hb hp => rfits_eq ((Cr.fits_of (p := (u, x)) hm).trans hen) bv pv w hb hp (Vt.mod_may hm) hxb n1 n2)
          by_cases h0 : en = 0
          · subst h0
            have E := Lib.hid (HGD.out rfl u hV rfl rfl)
            clear hT hN hen hrl hV hm
            go_enter Try.func50, Try.ntmps50
            go_wp2_with fail
            refine (HT.out _).mono ?_
            rintro e1 w1 ⟨rfl, q1, rfl⟩
            have P1 := Lib.hid (P0.out.kept (grow_draws _ q1))
            have G1 := Lib.hid (G0.out.trans ((grow_draws _ q1).mono (by simp)))
            go_wp2_with fail
            refine (HN.out _).mono ?_
            rintro e2 w2 ⟨rfl, q2, rfl⟩
            have P2 := Lib.hid (P1.out.kept (grow_draws _ q2))
            have G2 := Lib.hid (grow_trans G1.out (grow_draws _ q2))
            generalize World.drewN (World.drewN _ q1) q2 = w2 at *
            go_wp2_with fail
            refine (HV.out _).mono ?_
            rintro e4 w4 ⟨bv, pv, rfl, hb, hp, g4⟩
            have P4 := Lib.hid (P2.out.kept g4)
            have G4 := Lib.hid (grow_trans G2.out g4)
            obtain ⟨a, r, bs, ps, y, z⟩ := u
            simp only [] at hb hp
            have HB := Lib.hid hb
            have HP := Lib.hid hp
            obtain ⟨ab, cb, rfl⟩ := hb.at.len
            obtain ⟨ap, cp, rfl⟩ := hp.at.len
            have g5 : Below w4.heap.size w4 (w4.alloc (.cells #[.int .i64 a, .int .i64 r, .slice ab bs.length cb, .slice ap ps.length cp, .int .i64 y, .int .i64 z] 27)) := (Below.refl _ _).alloc (Nat.le_refl _) _
            have V5 := Lib.hid (VBox.new w4 a r (.slice ab bs.length cb) (.slice ap ps.length cp) y z)
            have g6 : Below w4.heap.size w4 ((w4.alloc (.cells #[.int .i64 a, .int .i64 r, .slice ab bs.length cb, .slice ap ps.length cp, .int .i64 y, .int .i64 z] 27)).alloc (.cells #[.int .i64 a, .int .i64 r, .slice ab bs.length cb, .slice ap ps.length cp, .int .i64 y, .int .i64 z, .int .u64 x] 41)) := g5.alloc (by simp) _
            have P6 := Lib.hid (P4.out.kept g6)
            have Q6 := Lib.hid (by have h := PBox.new (w4.alloc (.cells #[.int .i64 a, .int .i64 r, .slice ab bs.length cb, .slice ap ps.length cp, .int .i64 y, .int .i64 z] 27)) a r (.slice ab bs.length cb) (.slice ap ps.length cp) y z x; rwa [World.size_alloc] at h : PBox ((w4.alloc (.cells #[.int .i64 a, .int .i64 r, .slice ab bs.length cb, .slice ap ps.length cp, .int .i64 y, .int .i64 z] 27)).alloc (.cells #[.int .i64 a, .int .i64 r, .slice ab bs.length cb, .slice ap ps.length cp, .int .i64 y, .int .i64 z, .int .u64 x] 41)) (w4.heap.size + 1) a r (.slice ab bs.length cb) (.slice ap ps.length cp) y z x)
            have G6 := Lib.hid (grow_trans G4.out g6)
            have HB6 := Lib.hid (HB.out.keep (Keeps.of g6))
            have HP6 := Lib.hid (HP.out.keepT (Keeps.of g6))
            clear hb hp g4 g5 g6
            obtain ⟨k0, k1, k2, k3, k4, k5⟩ := V5.out.cells
            obtain ⟨j0, j1, j2, j3, j4, j5, j6⟩ := Q6.out.cells
            go_wp2_with fail
            refine (HF.out _ _ _ HB6.out.at HP6.out.at).mono ?_
            rintro e7 w7 ⟨rfl, g7⟩
            have P7 := Lib.hid (P6.out.kept g7)
            have Q7 := Lib.hid (Q6.out.kept g7)
            have G7 := Lib.hid (grow_trans G6.out g7)
            have HB7 := Lib.hid (HB6.out.keep (Keeps.of g7))
            have HP7 := Lib.hid (HP6.out.keepT (Keeps.of g7))
            clear g7 k0 k1 k2 k3 k4 k5 j0 j1 j2 j3 j4 j5 j6
            obtain ⟨c0, c1, c2, c3, c4, c5, c6⟩ := P7.out.cells
            obtain ⟨f0, f1, f2, f3, f4, f5, f6⟩ := P7.out.free
            obtain ⟨j0, j1, j2, j3, j4, j5, j6⟩ := Q7.out.cells
            go_wp2_with fail
            refine bodyPost_ret (v := .tuple #[prfV a r (.slice ab bs.length cb) (.slice ap ps.length cp) y z x, .int .i64 0]) ?_ rfl ?_
            · obtain ⟨d0, d1, d2, d3, d4, d5, d6⟩ := (P7.out.sets a r (.slice ab bs.length cb) (.slice ap ps.length cp) y z x).cells
              simp [results, Try.results50, go_sem, d0, d1, d2, d3, d4, d5, d6]
            · rw [E.out]
              have K := Keeps.psets P7.out a r (.slice ab bs.length cb) (.slice ap ps.length cp) y z x
              exact ⟨_, _, rfl, HB7.out.keep K, HP7.out.keepT K, below_psets G7.out (Nat.le_refl _) _ _ _ _ _ _ _⟩
          · have E := Lib.hid (HB2.out (.inr (.inr (.inl (by rw [hen]; exact h0)))))
            have t1 : ((en : Int) != 0) = true := by rw [bne_iff_ne]; omega
            clear hT hN hen hrl hV hm h0
            go_enter Try.func50, Try.ntmps50
            go_wp2_with fail
            refine (HT.out _).mono ?_
            rintro e1 w1 ⟨rfl, q1, rfl⟩
            have P1 := Lib.hid (P0.out.kept (grow_draws _ q1))
            have G1 := Lib.hid (G0.out.trans ((grow_draws _ q1).mono (by simp)))
            go_wp2_with fail
            refine (HN.out _).mono ?_
            rintro e2 w2 ⟨rfl, q2, rfl⟩
            have P2 := Lib.hid (P1.out.kept (grow_draws _ q2))
            have G2 := Lib.hid (grow_trans G1.out (grow_draws _ q2))
            generalize World.drewN (World.drewN _ q1) q2 = w2 at *
            go_wp2_with fail
            refine (HV.out _).mono ?_
            rintro e4 w4 ⟨bv, pv, rfl, hb, hp, g4⟩
            have P4 := Lib.hid (P2.out.kept g4)
            have G4 := Lib.hid (grow_trans G2.out g4)
            obtain ⟨a, r, bs, ps, y, z⟩ := u
            simp only [] at hb hp
            have HB := Lib.hid hb
            have HP := Lib.hid hp
            obtain ⟨ab, cb, rfl⟩ := hb.at.len
            obtain ⟨ap, cp, rfl⟩ := hp.at.len
            have g5 : Below w4.heap.size w4 (w4.alloc (.cells #[.int .i64 a, .int .i64 r, .slice ab bs.length cb, .slice ap ps.length cp, .int .i64 y, .int .i64 z] 27)) := (Below.refl _ _).alloc (Nat.le_refl _) _
            have V5 := Lib.hid (VBox.new w4 a r (.slice ab bs.length cb) (.slice ap ps.length cp) y z)
            have g6 : Below w4.heap.size w4 ((w4.alloc (.cells #[.int .i64 a, .int .i64 r, .slice ab bs.length cb, .slice ap ps.length cp, .int .i64 y, .int .i64 z] 27)).alloc (.cells #[.int .i64 a, .int .i64 r, .slice ab bs.length cb, .slice ap ps.length cp, .int .i64 y, .int .i64 z, .int .u64 x] 41)) := g5.alloc (by simp) _
            have P6 := Lib.hid (P4.out.kept g6)
            have Q6 := Lib.hid (by have h := PBox.new (w4.alloc (.cells #[.int .i64 a, .int .i64 r, .slice ab bs.length cb, .slice ap ps.length cp, .int .i64 y, .int .i64 z] 27)) a r (.slice ab bs.length cb) (.slice ap ps.length cp) y z x; rwa [World.size_alloc] at h : PBox ((w4.alloc (.cells #[.int .i64 a, .int .i64 r, .slice ab bs.length cb, .slice ap ps.length cp, .int .i64 y, .int .i64 z] 27)).alloc (.cells #[.int .i64 a, .int .i64 r, .slice ab bs.length cb, .slice ap ps.length cp, .int .i64 y, .int .i64 z, .int .u64 x] 41)) (w4.heap.size + 1) a r (.slice ab bs.length cb) (.slice ap ps.length cp) y z x)
            have G6 := Lib.hid (grow_trans G4.out g6)
            have HB6 := Lib.hid (HB.out.keep (Keeps.of g6))
            have HP6 := Lib.hid (HP.out.keepT (Keeps.of g6))
            clear hb hp g4 g5 g6
            obtain ⟨k0, k1, k2, k3, k4, k5⟩ := V5.out.cells
            obtain ⟨j0, j1, j2, j3, j4, j5, j6⟩ := Q6.out.cells
            go_wp2_with fail
            refine (HF.out _ _ _ HB6.out.at HP6.out.at).mono ?_
            rintro e7 w7 ⟨rfl, g7⟩
            have P7 := Lib.hid (P6.out.kept g7)
            have Q7 := Lib.hid (Q6.out.kept g7)
            have G7 := Lib.hid (grow_trans G6.out g7)
            have HB7 := Lib.hid (HB6.out.keep (Keeps.of g7))
            have HP7 := Lib.hid (HP6.out.keepT (Keeps.of g7))
            clear g7 k0 k1 k2 k3 k4 k5 j0 j1 j2 j3 j4 j5 j6
            obtain ⟨c0, c1, c2, c3, c4, c5, c6⟩ := P7.out.cells
            obtain ⟨f0, f1, f2, f3, f4, f5, f6⟩ := P7.out.free
            go_wp2_with fail
            refine bodyPost_ret (v := .tuple #[prfV 0 0 (.slice none 0 0) (.slice none 0 0) 0 0 0, .int .i64 3]) ?_ rfl ?_
            · have hD := (P7.out.sets 0 0 (.slice none 0 0) (.slice none 0 0) 0 0 0).cells
              rw [show ((0 : Nat) : Int) = 0 from rfl] at hD
              obtain ⟨d0, d1, d2, d3, d4, d5, d6⟩ := hD
              simp [results, Try.results50, go_sem, d0, d1, d2, d3, d4, d5, d6]
            · rw [E.out]
              exact ⟨_, _, rfl, BtsT.nil _ _, TxT.nil _ _, below_psets G7.out (Nat.le_refl _) _ _ _ _ _ _ _⟩
        · have E := Lib.hid (HB2.out (.inr (.inr (.inr (by rw [hV]; exact hev)))))
          have t1 : ((ev : Int) != 0) = true := by rw [bne_iff_ne]; omega
          clear hT hN hen hrl hV hev
          go_enter Try.func50, Try.ntmps50
          go_wp2_with fail
          refine (HT.out _).mono ?_
          rintro e1 w1 ⟨rfl, q1, rfl⟩
          have P1 := Lib.hid (P0.out.kept (grow_draws _ q1))
          have G1 := Lib.hid (G0.out.trans ((grow_draws _ q1).mono (by simp)))
          go_wp2_with fail
          refine (HN.out _).mono ?_
          rintro e2 w2 ⟨rfl, q2, rfl⟩
          have P2 := Lib.hid (P1.out.kept (grow_draws _ q2))
          have G2 := Lib.hid (grow_trans G1.out (grow_draws _ q2))
          generalize World.drewN (World.drewN _ q1) q2 = w2 at *
          go_wp2_with fail
          refine (HV.out _).mono ?_
          rintro e4 w4 ⟨bv, pv, rfl, hb, hp, g4⟩
          have P4 := Lib.hid (P2.out.kept g4)
          have G4 := Lib.hid (grow_trans G2.out g4)
          obtain ⟨a, r, bs, ps, y, z⟩ := u
          simp only [] at hb hp
          have HB := Lib.hid hb
          have HP := Lib.hid hp
          obtain ⟨ab, cb, rfl⟩ := hb.at.len
          obtain ⟨ap, cp, rfl⟩ := hp.at.len
          have g5 : Below w4.heap.size w4 (w4.alloc (.cells #[.int .i64 a, .int .i64 r, .slice ab bs.length cb, .slice ap ps.length cp, .int .i64 y, .int .i64 z] 27)) := (Below.refl _ _).alloc (Nat.le_refl _) _
          have P5 := Lib.hid (P4.out.kept g5)
          have G5 := Lib.hid (grow_trans G4.out g5)
          clear hb hp g4 g5
          obtain ⟨c0, c1, c2, c3, c4, c5, c6⟩ := P5.out.cells
          obtain ⟨f0, f1, f2, f3, f4, f5, f6⟩ := P5.out.free
          go_wp2_with fail
          refine bodyPost_ret (v := .tuple #[prfV 0 0 (.slice none 0 0) (.slice none 0 0) 0 0 0, .int .i64 3]) ?_ rfl ?_
          · have hD := (P5.out.sets 0 0 (.slice none 0 0) (.slice none 0 0) 0 0 0).cells
            rw [show ((0 : Nat) : Int) = 0 from rfl] at hD
            obtain ⟨d0, d1, d2, d3, d4, d5, d6⟩ := hD
            simp [results, Try.results50, go_sem, d0, d1, d2, d3, d4, d5, d6]
          · rw [E.out]
            exact ⟨_, _, rfl, BtsT.nil _ _, TxT.nil _ _, below_psets G5.out (Nat.le_refl _) _ _ _ _ _ _ _⟩
      · have E := Lib.hid (HB2.out (.inr (.inl hr2)))
        have t1 : decide (0 < r2.length) = true := decide_eq_true (List.length_pos_iff.2 hr2)
        have t2 : 0 < r2.length := List.length_pos_iff.2 hr2
        clear hT hN hen hrl hr2
        go_enter Try.func50, Try.ntmps50
        go_wp2_with fail
        refine (HT.out _).mono ?_
        rintro e1 w1 ⟨rfl, q1, rfl⟩
        have P1 := Lib.hid (P0.out.kept (grow_draws _ q1))
        have G1 := Lib.hid (G0.out.trans ((grow_draws _ q1).mono (by simp)))
        go_wp2_with fail
        refine (HN.out _).mono ?_
        rintro e2 w2 ⟨rfl, q2, rfl⟩
        have P2 := Lib.hid (P1.out.kept (grow_draws _ q2))
        have G2 := Lib.hid (grow_trans G1.out (grow_draws _ q2))
        generalize World.drewN (World.drewN _ q1) q2 = w2 at *
        obtain ⟨c0, c1, c2, c3, c4, c5, c6⟩ := P2.out.cells
        obtain ⟨f0, f1, f2, f3, f4, f5, f6⟩ := P2.out.free
        go_wp2_with fail
        refine bodyPost_ret (v := .tuple #[prfV 0 0 (.slice none 0 0) (.slice none 0 0) 0 0 0, .int .i64 3]) ?_ rfl ?_
        · have hD := (P2.out.sets 0 0 (.slice none 0 0) (.slice none 0 0) 0 0 0).cells
          rw [show ((0 : Nat) : Int) = 0 from rfl] at hD
          obtain ⟨d0, d1, d2, d3, d4, d5, d6⟩ := hD
          simp [results, Try.results50, go_sem, d0, d1, d2, d3, d4, d5, d6]
        · rw [E.out]
          exact ⟨_, _, rfl, BtsT.nil _ _, TxT.nil _ _, below_psets G2.out (Nat.le_refl _) _ _ _ _ _ _ _⟩
    · have E := Lib.hid (HB2.out (.inl he2))
      have t1 : ((e2 : Int) != 0) = true := by rw [bne_iff_ne]; omega
      clear hT hN hen hrl he2
      go_enter Try.func50, Try.ntmps50
      go_wp2_with fail
      refine (HT.out _).mono ?_
      rintro e1 w1 ⟨rfl, q1, rfl⟩
      have P1 := Lib.hid (P0.out.kept (grow_draws _ q1))
      have G1 := Lib.hid (G0.out.trans ((grow_draws _ q1).mono (by simp)))
      go_wp2_with fail
      refine (HN.out _).mono ?_
      rintro e2 w2 ⟨rfl, q2, rfl⟩
      have P2 := Lib.hid (P1.out.kept (grow_draws _ q2))
      have G2 := Lib.hid (grow_trans G1.out (grow_draws _ q2))
      generalize World.drewN (World.drewN _ q1) q2 = w2 at *
      obtain ⟨c0, c1, c2, c3, c4, c5, c6⟩ := P2.out.cells
      obtain ⟨f0, f1, f2, f3, f4, f5, f6⟩ := P2.out.free
      go_wp2_with fail
      refine bodyPost_ret (v := .tuple #[prfV 0 0 (.slice none 0 0) (.slice none 0 0) 0 0 0, .int .i64 3]) ?_ rfl ?_
      · have hD := (P2.out.sets 0 0 (.slice none 0 0) (.slice none 0 0) 0 0 0).cells
        rw [show ((0 : Nat) : Int) = 0 from rfl] at hD
        obtain ⟨d0, d1, d2, d3, d4, d5, d6⟩ := hD
        simp [results, Try.results50, go_sem, d0, d1, d2, d3, d4, d5, d6]
      · rw [E.out]
        exact ⟨_, _, rfl, BtsT.nil _ _, TxT.nil _ _, below_psets G2.out (Nat.le_refl _) _ _ _ _ _ _ _⟩
  · have E := Lib.hid (Cr.take_bad1R (n := n) hT he)
    have t1 : ((e : Int) != 0) = true := by rw [bne_iff_ne]; omega
    clear hT hN hen hrl he
    go_enter Try.func50, Try.ntmps50
    go_wp2_with fail
    refine (HT.out _).mono ?_
    rintro e1 w1 ⟨rfl, q1, rfl⟩
    have P1 := Lib.hid (P0.out.kept (grow_draws _ q1))
    have G1 := Lib.hid (G0.out.trans ((grow_draws _ q1).mono (by simp)))
    generalize World.drewN _ q1 = w1 at *
    obtain ⟨c0, c1, c2, c3, c4, c5, c6⟩ := P1.out.cells
    obtain ⟨f0, f1, f2, f3, f4, f5, f6⟩ := P1.out.free
    go_wp2_with fail
    refine bodyPost_ret (v := .tuple #[prfV 0 0 (.slice none 0 0) (.slice none 0 0) 0 0 0, .int .i64 3]) ?_ rfl ?_
    · have hD := (P1.out.sets 0 0 (.slice none 0 0) (.slice none 0 0) 0 0 0).cells
      rw [show ((0 : Nat) : Int) = 0 from rfl] at hD
      obtain ⟨d0, d1, d2, d3, d4, d5, d6⟩ := hD
      simp [results, Try.results50, go_sem, d0, d1, d2, d3, d4, d5, d6]
    · rw [E.out]
      exact ⟨_, _, rfl, BtsT.nil _ _, TxT.nil _ _, below_psets G1.out (Nat.le_refl _) _ _ _ _ _ _ _⟩

set_option maxHeartbeats 4000000 in
theorem rcbytes (n : Int) (p : Cr.Prf) (bv pv : Value) (w : World) (hb : BtsAt w bv p.1.2.2.1) (hp : TxAt w pv p.1.2.2.2.1) (mv : Vt.Mod p.1) (hx : p.2 < 18446744073709551616) (n1 : -9223372036854775808 ≤ n) (n2 : n ≤ 9223372036854775807) :
    Calls Try.prog 37 #[prfV p.1.1 p.1.2.1 bv pv p.1.2.2.2.2.1 p.1.2.2.2.2.2 p.2, .int .i64 n] w fun e w' => e = .returned (.tuple #[tx (Cr.bytesR p n).1, .int .i64 (Cr.bytesR p n).2]) ∧ Below w.heap.size w w' := by
  have MV := Lib.hid mv
  obtain ⟨f, hf⟩ : ∃ f, Cr.fits p n = f := ⟨_, rfl⟩
  have HFI := Lib.hid (fun bv pv w hb hp => rfits_eq hf bv pv w hb hp mv hx n1 n2)
  obtain ⟨v, x⟩ := p
  simp only [] at hb hp hx
  have HB := Lib.hid hb
  have HP := Lib.hid hp
  obtain ⟨ab, cb, hbe⟩ := hb.len
  obtain ⟨ap, cp, hpe⟩ := hp.len
  by_cases h0 : f = 0
  · subst h0
    have hm := (Cr.fits_zero hf).1
    simp only [] at hm
    have hD := Vt.bytesR_ok hm
    have hvl := Vt.bytes_len hm
    obtain ⟨s, hs⟩ : ∃ s, Vt.bytes v = s := ⟨_, rfl⟩
    rw [hs] at hD hvl
    have HD := Lib.hid hD
    obtain ⟨s1, hs1⟩ : ∃ t, Dg.text s = t := ⟨_, rfl⟩
    obtain ⟨s2, hs2⟩ : ∃ t, Dg.num x = t := ⟨_, rfl⟩
    have E := Lib.hid (show Cr.bytesR (v, x) n = (s1 ++ s2, 0) by rw [Cr.bytesR_ok hf, Cr.bytes, hs, hs1, hs2])
    have l1 : s1.length ≤ 100000 := by
      rw [← hs1, Dg.text, List.length_append]
      have := Dg.num_len s.length
      omega
    have l2 : s2.length ≤ 9 := by rw [← hs2]; exact Dg.num_len x
    have HS1 := Lib.hid (rtext_eq hs1 (by omega))
    have HS2 := Lib.hid (rnum_eq hs2 hx)
    have e1 := fun W => cat_run s1 s2 (by omega) W
    obtain ⟨a, r, bs, ps, y, z⟩ := v
    simp only [] at hbe hpe HB HP
    subst hbe hpe
    have P0 := Lib.hid (PBox.new w a r (.slice ab bs.length cb) (.slice ap ps.length cp) y z x)
    have HG := Lib.hid (show Below w.heap.size w (w.alloc (.cells #[.int .i64 a, .int .i64 r, .slice ab bs.length cb, .slice ap ps.length cp, .int .i64 y, .int .i64 z, .int .u64 x] 41)) from (Below.refl _ _).alloc (Nat.le_refl _) _)
    obtain ⟨c0, c1, c2, c3, c4, c5, c6⟩ := P0.out.cells
    clear hb hp mv hf hm hD hs hs1 hs2
    go_enter Try.func37, Try.ntmps37
    go_wp2_with fail
    refine (HFI.out _ _ _ (HB.out.below HG.out) (HP.out.below HG.out)).mono ?_
    rintro e w1 ⟨rfl, g1⟩
    have P1 := Lib.hid (P0.out.kept g1)
    have G1 := Lib.hid (HG.out.trans (g1.mono (by simp)))
    clear g1 c0 c1 c2 c3 c4 c5 c6
    obtain ⟨c0, c1, c2, c3, c4, c5, c6⟩ := P1.out.cells
    go_wp2_with fail
    refine (rvbytes_eq (v := (a, r, bs, ps, y, z)) HD.out _ _ _ (HB.out.below G1.out) (HP.out.below G1.out) MV.out n1 n2).mono ?_
    rintro e w2 ⟨rfl, g2⟩
    have P2 := Lib.hid (P1.out.kept g2)
    have G2 := Lib.hid (grow_trans G1.out g2)
    clear g2 c0 c1 c2 c3 c4 c5 c6
    obtain ⟨c0, c1, c2, c3, c4, c5, c6⟩ := P2.out.cells
    have hS : (fun w' : World => w'.cell? ⟨w.heap.size, 6, none⟩ = some (.int .u64 x) ∧ Below w.heap.size w w') w2 := ⟨c6, G2.out⟩
    have hk := Lib.hid (show ∀ a' b' : World, (fun w' : World => w'.cell? ⟨w.heap.size, 6, none⟩ = some (.int .u64 x) ∧ Below w.heap.size w w') a' → Below a'.heap.size a' b' → (fun w' : World => w'.cell? ⟨w.heap.size, 6, none⟩ = some (.int .u64 x) ∧ Below w.heap.size w w') b' from fun a' b' ⟨k0, kb⟩ h => ⟨below_cell h k0, grow_trans kb h⟩)
    have ht := Lib.hid (fun W (h : (fun w' : World => w'.cell? ⟨w.heap.size, 6, none⟩ = some (.int .u64 x) ∧ Below w.heap.size w w') W) => keepB (fun w' : World => w'.cell? ⟨w.heap.size, 6, none⟩ = some (.int .u64 x) ∧ Below w.heap.size w w') hk.out (HS1.out W) h)
    have hn := Lib.hid (fun W (h : (fun w' : World => w'.cell? ⟨w.heap.size, 6, none⟩ = some (.int .u64 x) ∧ Below w.heap.size w w') W) => keepB (fun w' : World => w'.cell? ⟨w.heap.size, 6, none⟩ = some (.int .u64 x) ∧ Below w.heap.size w w') hk.out (HS2.out W) h)
    clear c0 c1 c2 c3 c4 c5 c6 P0 P1 P2 HG G1 G2 HB HP HD HFI MV HS1 HS2
    go_wp2_with fail
    go_region_held3 (fun w' : World => w'.cell? ⟨w.heap.size, 6, none⟩ = some (.int .u64 x) ∧ Below w.heap.size w w')
      (first | assumption | exact hk.out _ _ hS (Below.drew (Below.refl _ _)) | exact hk.out _ _ (by assumption) ((Below.refl _ _).alloc (Nat.le_refl _) _))
      (first
        | (go_at_call 73; refine (ht.out _ (by assumption)).mono ?_; rintro e w3 ⟨rfl, kS⟩)
        | (go_at_call 41; refine (hn.out _ (by assumption)).mono ?_; rintro e w3 ⟨rfl, kS⟩))
    all_goals
      go_wp2_with fail
      go_ret2
      exact ⟨by rw [E.out]; rfl, (show (fun w' : World => w'.cell? ⟨w.heap.size, 6, none⟩ = some (.int .u64 x) ∧ Below w.heap.size w w') _ by assumption).2⟩
  · have E := Lib.hid (show Cr.bytesR (v, x) n = ([], f) by rw [Cr.bytesR_no (by rw [hf]; exact h0), hf])
    have t1 : ((f : Int) != 0) = true := by rw [bne_iff_ne]; omega
    obtain ⟨a, r, bs, ps, y, z⟩ := v
    simp only [] at hbe hpe HB HP
    subst hbe hpe
    have P0 := Lib.hid (PBox.new w a r (.slice ab bs.length cb) (.slice ap ps.length cp) y z x)
    have HG := Lib.hid (show Below w.heap.size w (w.alloc (.cells #[.int .i64 a, .int .i64 r, .slice ab bs.length cb, .slice ap ps.length cp, .int .i64 y, .int .i64 z, .int .u64 x] 41)) from (Below.refl _ _).alloc (Nat.le_refl _) _)
    obtain ⟨c0, c1, c2, c3, c4, c5, c6⟩ := P0.out.cells
    clear hb hp mv hf h0
    go_enter Try.func37, Try.ntmps37
    go_wp2_with fail
    refine (HFI.out _ _ _ (HB.out.below HG.out) (HP.out.below HG.out)).mono ?_
    rintro e w1 ⟨rfl, g1⟩
    have G1 := Lib.hid (HG.out.trans (g1.mono (by simp)))
    clear g1 c0 c1 c2 c3 c4 c5 c6
    go_wp2
    go_ret2
    exact ⟨by rw [E.out]; rfl, G1.out⟩
end Go.Proofs.Ytbkpekpajeaacaa
