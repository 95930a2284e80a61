/- Package cert as it landed: Take. -/
import Derived.Test.YtbkpekpajeaacaaCrTakeM
namespace Go.Proofs.Ytbkpekpajeaacaa
open Go.RowKit
set_option maxRecDepth 100000
section
variable {W W' : World} {R n s : Nat} {a r x y : Int} {b p : Value}
set_option maxHeartbeats 2000000 in
theorem PBox.sets (h : PBox W R a r b p x y s) (a' r' : Int) (b' p' : Value) (x' y' : Int) (s' : Nat) :
    PBox ((((((((W.setCell ⟨R, 0, none⟩ (.int .i64 a')).setCell ⟨R, 1, none⟩ (.int .i64 r')).setCell ⟨R, 2, none⟩ b').setCell ⟨R, 3, none⟩ p').setCell ⟨R, 4, none⟩ (.int .i64 x')).setCell ⟨R, 5, none⟩ (.int .i64 y')).setCell ⟨R, 6, none⟩ (.int .u64 s'))) R a' r' b' p' x' y' s' := by
  have h0 := heap_setQ (k := 0) h (.int .i64 a')
  have h1 := heap_setQ (k := 1) h0 (.int .i64 r')
  have h2 := heap_setQ (k := 2) h1 b'
  have h3 := heap_setQ (k := 3) h2 p'
  have h4 := heap_setQ (k := 4) h3 (.int .i64 x')
  have h5 := heap_setQ (k := 5) h4 (.int .i64 y')
  have h6 := heap_setQ (k := 6) h5 (.int .u64 s')
  simpa [PBox] using h6
theorem Keeps.psets (h : PBox W R a r b p x y s) (a' r' : Int) (b' p' : Value) (x' y' : Int) (s' : Nat) :
    Keeps W ((((((((W.setCell ⟨R, 0, none⟩ (.int .i64 a')).setCell ⟨R, 1, none⟩ (.int .i64 r')).setCell ⟨R, 2, none⟩ b').setCell ⟨R, 3, none⟩ p').setCell ⟨R, 4, none⟩ (.int .i64 x')).setCell ⟨R, 5, none⟩ (.int .i64 y')).setCell ⟨R, 6, none⟩ (.int .u64 s'))) := by
  have d : 41 ≠ 9 ∧ 41 ≠ 105 := by decide
  have h0 := heap_setQ (k := 0) h (.int .i64 a')
  have h1 := heap_setQ (k := 1) h0 (.int .i64 r')
  have h2 := heap_setQ (k := 2) h1 b'
  have h3 := heap_setQ (k := 3) h2 p'
  have h4 := heap_setQ (k := 4) h3 (.int .i64 x')
  have h5 := heap_setQ (k := 5) h4 (.int .i64 y')
  exact ((((((Keeps.set h d 0 _).trans (Keeps.set h0 d 1 _)).trans (Keeps.set h1 d 2 _)).trans (Keeps.set h2 d 3 _)).trans (Keeps.set h3 d 4 _)).trans (Keeps.set h4 d 5 _)).trans (Keeps.set h5 d 6 _)
theorem below_psets (h : Below n W W') (hR : n ≤ R) (a' r' : Int) (b' p' : Value) (x' y' : Int) (s' : Nat) :
    Below n W ((((((((W'.setCell ⟨R, 0, none⟩ (.int .i64 a')).setCell ⟨R, 1, none⟩ (.int .i64 r')).setCell ⟨R, 2, none⟩ b').setCell ⟨R, 3, none⟩ p').setCell ⟨R, 4, none⟩ (.int .i64 x')).setCell ⟨R, 5, none⟩ (.int .i64 y')).setCell ⟨R, 6, none⟩ (.int .u64 s'))) :=
  below_setQ (below_setQ (below_setQ (below_setQ (below_setQ (below_setQ (below_setQ h hR _ _) hR _ _) hR _ _) hR _ _) hR _ _) hR _ _) hR _ _
end
/-- What a taken proof's call gives. -/
def PT (R : Cr.Prf × Nat) (w : World) (e : Ending) (w' : World) : Prop :=
  ∃ bv pv, e = .returned (.tuple #[prfV R.1.1.1 R.1.1.2.1 bv pv R.1.1.2.2.2.2.1 R.1.1.2.2.2.2.2 R.1.2, .int .i64 R.2]) ∧ BtsT w' bv R.1.1.2.2.1 ∧ TxT w' pv R.1.1.2.2.2.1 ∧ Below w.heap.size w w'

set_option maxHeartbeats 4000000 in
theorem pctake (s : List UInt8) (n : Int) (hs : s.length ≤ 140737488351232) (hnb : n ≤ 4294967296 ∨ s.length ≤ 4294967296) (n1 : -9223372036854775808 ≤ n) (n2 : n ≤ 9223372036854775807) (w : World) :
    Calls Try.prog 49 #[tx s, .int .i64 n] w (PT (Cr.take s n) w) := by
  obtain ⟨t, rest, e, hT⟩ : ∃ t rest e, Dg.takeText s s.length = (t, rest, e) := ⟨_, _, _, rfl⟩
  have hrl := Dg.takeText_rest s s.length
  rw [hT] at hrl
  simp only [] at hrl
  obtain ⟨x, r2, e2, hN⟩ : ∃ x r2 e2, Dg.takeNum rest = (x, r2, e2) := ⟨_, _, _, rfl⟩
  have hxb := Dg.takeNum_bound rest
  rw [hN] at hxb
  simp only [] at hxb
  obtain ⟨en, hen⟩ : ∃ z, Cr.enough n x = z := ⟨_, rfl⟩
  have HEN := Lib.hid (penough_eq hen hxb n1 n2)
  have HT := Lib.hid (takeText_eq hT hs (by omega) (by omega))
  have HN := Lib.hid (takeNum_eq hN (by omega))
  have P0 := Lib.hid (PBox.new w 0 0 (.slice none 0 0) (.slice none 0 0) 0 0 0)
  have G0 := Lib.hid (show Below w.heap.size w (w.alloc (.cells #[.int .i64 0, .int .i64 0, .slice none 0 0, .slice none 0 0, .int .i64 0, .int .i64 0, .int .u64 0] 41)) from (Below.refl _ _).alloc (Nat.le_refl _) _)
  by_cases he : e = 0
  · subst he
    have HB2 := Lib.hid (fun h => Cr.take_bad2 (n := n) hT hN h)
    have HGD := Lib.hid (fun (h : e2 = 0) u (h4 : Vt.take t n = (u, 0)) (h5 : r2 = []) (h6 : en = 0) => Cr.take_good (n := n) hT (by rw [hN, h, h5]) (hen.trans h6) h4)
    have htl : t.length ≤ s.length := by
      have := congrArg List.length (Dg.takeText_back _ _ _ _ hT).1
      simp only [Dg.text, List.length_append] at this
      omega
    by_cases he2 : e2 = 0
    · subst he2
      by_cases hr2 : r2 = []
      · subst hr2
        by_cases h0 : en = 0
        · subst h0
          obtain ⟨⟨u, ev⟩, hV⟩ : ∃ R, Vt.take t n = R := ⟨_, rfl⟩
          have HV := Lib.hid (pvtake_eq hV (by omega) (by omega) n1 n2)
          by_cases hev : ev = 0
          · subst hev
            have E := Lib.hid (HGD.out rfl u hV rfl rfl)
            clear hT hN hen hrl hV
            go_enter Try.func49, Try.ntmps49
            go_wp2_with fail
            refine (HT.out _).mono ?_
            rintro e1 w1 ⟨rfl, q1, rfl⟩
            have P1 := Lib.hid (P0.out.kept (grow_draws _ q1))
            have G1 := Lib.hid (G0.out.trans ((grow_draws _ q1).mono (by simp)))
            go_wp2_with fail
            refine (HN.out _).mono ?_
            rintro e2 w2 ⟨rfl, q2, rfl⟩
            have P2 := Lib.hid (P1.out.kept (grow_draws _ q2))
            have G2 := Lib.hid (grow_trans G1.out (grow_draws _ q2))
            generalize World.drewN (World.drewN _ q1) q2 = w2 at *
            go_wp2_with fail
            refine (HEN.out _).mono ?_
            rintro e3 w3 ⟨rfl, g3⟩
            have P3 := Lib.hid (P2.out.kept g3)
            have G3 := Lib.hid (grow_trans G2.out g3)
            clear g3
            go_wp2_with fail
            refine (HV.out _).mono ?_
            rintro e4 w4 ⟨bv, pv, rfl, hb, hp, g4⟩
            have P4 := Lib.hid (P3.out.kept g4)
            have G4 := Lib.hid (grow_trans G3.out g4)
            obtain ⟨a, r, bs, ps, y, z⟩ := u
            simp only [] at hb hp
            have HB := Lib.hid hb
            have HP := Lib.hid hp
            obtain ⟨ab, cb, rfl⟩ := hb.at.len
            obtain ⟨ap, cp, rfl⟩ := hp.at.len
            have g5 : Below w4.heap.size w4 (w4.alloc (.cells #[.int .i64 a, .int .i64 r, .slice ab bs.length cb, .slice ap ps.length cp, .int .i64 y, .int .i64 z] 27)) := (Below.refl _ _).alloc (Nat.le_refl _) _
            have P5 := Lib.hid (P4.out.kept g5)
            have V5 := Lib.hid (VBox.new w4 a r (.slice ab bs.length cb) (.slice ap ps.length cp) y z)
            have G5 := Lib.hid (grow_trans G4.out g5)
            have HB5 := Lib.hid (HB.out.keep (Keeps.of g5))
            have HP5 := Lib.hid (HP.out.keepT (Keeps.of g5))
            clear hb hp g4 g5
            obtain ⟨c0, c1, c2, c3, c4, c5, c6⟩ := P5.out.cells
            obtain ⟨f0, f1, f2, f3, f4, f5, f6⟩ := P5.out.free
            obtain ⟨k0, k1, k2, k3, k4, k5⟩ := V5.out.cells
            go_wp2_with fail
            refine bodyPost_ret (v := .tuple #[prfV a r (.slice ab bs.length cb) (.slice ap ps.length cp) y z x, .int .i64 0]) ?_ rfl ?_
            · obtain ⟨d0, d1, d2, d3, d4, d5, d6⟩ := (P5.out.sets a r (.slice ab bs.length cb) (.slice ap ps.length cp) y z x).cells
              simp [results, Try.results49, go_sem, d0, d1, d2, d3, d4, d5, d6]
            · rw [E.out]
              have K := Keeps.psets P5.out a r (.slice ab bs.length cb) (.slice ap ps.length cp) y z x
              exact ⟨_, _, rfl, HB5.out.keep K, HP5.out.keepT K, below_psets G5.out (Nat.le_refl _) _ _ _ _ _ _ _⟩
          · have E := Lib.hid (HB2.out (.inr (.inr (.inr (by rw [hV]; exact hev)))))
            have t1 : ((ev : Int) != 0) = true := by rw [bne_iff_ne]; omega
            clear hT hN hen hrl hV hev
            go_enter Try.func49, Try.ntmps49
            go_wp2_with fail
            refine (HT.out _).mono ?_
            rintro e1 w1 ⟨rfl, q1, rfl⟩
            have P1 := Lib.hid (P0.out.kept (grow_draws _ q1))
            have G1 := Lib.hid (G0.out.trans ((grow_draws _ q1).mono (by simp)))
            go_wp2_with fail
            refine (HN.out _).mono ?_
            rintro e2 w2 ⟨rfl, q2, rfl⟩
            have P2 := Lib.hid (P1.out.kept (grow_draws _ q2))
            have G2 := Lib.hid (grow_trans G1.out (grow_draws _ q2))
            generalize World.drewN (World.drewN _ q1) q2 = w2 at *
            go_wp2_with fail
            refine (HEN.out _).mono ?_
            rintro e3 w3 ⟨rfl, g3⟩
            have P3 := Lib.hid (P2.out.kept g3)
            have G3 := Lib.hid (grow_trans G2.out g3)
            clear g3
            go_wp2_with fail
            refine (HV.out _).mono ?_
            rintro e4 w4 ⟨bv, pv, rfl, hb, hp, g4⟩
            have P4 := Lib.hid (P3.out.kept g4)
            have G4 := Lib.hid (grow_trans G3.out g4)
            obtain ⟨a, r, bs, ps, y, z⟩ := u
            simp only [] at hb hp
            obtain ⟨ab, cb, rfl⟩ := hb.at.len
            obtain ⟨ap, cp, rfl⟩ := hp.at.len
            have g5 : Below w4.heap.size w4 (w4.alloc (.cells #[.int .i64 a, .int .i64 r, .slice ab bs.length cb, .slice ap ps.length cp, .int .i64 y, .int .i64 z] 27)) := (Below.refl _ _).alloc (Nat.le_refl _) _
            have P5 := Lib.hid (P4.out.kept g5)
            have G5 := Lib.hid (grow_trans G4.out g5)
            clear hb hp g4 g5
            obtain ⟨c0, c1, c2, c3, c4, c5, c6⟩ := P5.out.cells
            obtain ⟨f0, f1, f2, f3, f4, f5, f6⟩ := P5.out.free
            go_wp2_with fail
            refine bodyPost_ret (v := .tuple #[prfV 0 0 (.slice none 0 0) (.slice none 0 0) 0 0 0, .int .i64 3]) ?_ rfl ?_
            · have hD := (P5.out.sets 0 0 (.slice none 0 0) (.slice none 0 0) 0 0 0).cells
              rw [show ((0 : Nat) : Int) = 0 from rfl] at hD
              obtain ⟨d0, d1, d2, d3, d4, d5, d6⟩ := hD
              simp [results, Try.results49, go_sem, d0, d1, d2, d3, d4, d5, d6]
            · rw [E.out]
              exact ⟨_, _, rfl, BtsT.nil _ _, TxT.nil _ _, below_psets G5.out (Nat.le_refl _) _ _ _ _ _ _ _⟩
        · have E := Lib.hid (HB2.out (.inr (.inr (.inl (by rw [hen]; exact h0)))))
          have t1 : ((en : Int) != 0) = true := by rw [bne_iff_ne]; omega
          clear hT hN hen hrl h0
          go_enter Try.func49, Try.ntmps49
          go_wp2_with fail
          refine (HT.out _).mono ?_
          rintro e1 w1 ⟨rfl, q1, rfl⟩
          have P1 := Lib.hid (P0.out.kept (grow_draws _ q1))
          have G1 := Lib.hid (G0.out.trans ((grow_draws _ q1).mono (by simp)))
          go_wp2_with fail
          refine (HN.out _).mono ?_
          rintro e2 w2 ⟨rfl, q2, rfl⟩
          have P2 := Lib.hid (P1.out.kept (grow_draws _ q2))
          have G2 := Lib.hid (grow_trans G1.out (grow_draws _ q2))
          generalize World.drewN (World.drewN _ q1) q2 = w2 at *
          go_wp2_with fail
          refine (HEN.out _).mono ?_
          rintro e3 w3 ⟨rfl, g3⟩
          have P3 := Lib.hid (P2.out.kept g3)
          have G3 := Lib.hid (grow_trans G2.out g3)
          clear g3
          obtain ⟨c0, c1, c2, c3, c4, c5, c6⟩ := P3.out.cells
          obtain ⟨f0, f1, f2, f3, f4, f5, f6⟩ := P3.out.free
          go_wp2_with fail
          refine bodyPost_ret (v := .tuple #[prfV 0 0 (.slice none 0 0) (.slice none 0 0) 0 0 0, .int .i64 3]) ?_ rfl ?_
          · have hD := (P3.out.sets 0 0 (.slice none 0 0) (.slice none 0 0) 0 0 0).cells
            rw [show ((0 : Nat) : Int) = 0 from rfl] at hD
            obtain ⟨d0, d1, d2, d3, d4, d5, d6⟩ := hD
            simp [results, Try.results49, go_sem, d0, d1, d2, d3, d4, d5, d6]
          · rw [E.out]
            exact ⟨_, _, rfl, BtsT.nil _ _, TxT.nil _ _, below_psets G3.out (Nat.le_refl _) _ _ _ _ _ _ _⟩
      · have E := Lib.hid (HB2.out (.inr (.inl hr2)))
        have t1 : (r2 != []) = true := by rw [bne_iff_ne]; exact hr2
        have t2 : (r2 == []) = false := by rw [beq_eq_false_iff_ne]; exact hr2
        clear hT hN hen hrl hr2
        go_enter Try.func49, Try.ntmps49
        go_wp2_with fail
        refine (HT.out _).mono ?_
        rintro e1 w1 ⟨rfl, q1, rfl⟩
        have P1 := Lib.hid (P0.out.kept (grow_draws _ q1))
        have G1 := Lib.hid (G0.out.trans ((grow_draws _ q1).mono (by simp)))
        go_wp2_with fail
        refine (HN.out _).mono ?_
        rintro e2 w2 ⟨rfl, q2, rfl⟩
        have P2 := Lib.hid (P1.out.kept (grow_draws _ q2))
        have G2 := Lib.hid (grow_trans G1.out (grow_draws _ q2))
        generalize World.drewN (World.drewN _ q1) q2 = w2 at *
        obtain ⟨c0, c1, c2, c3, c4, c5, c6⟩ := P2.out.cells
        obtain ⟨f0, f1, f2, f3, f4, f5, f6⟩ := P2.out.free
        go_wp2_with fail
        refine bodyPost_ret (v := .tuple #[prfV 0 0 (.slice none 0 0) (.slice none 0 0) 0 0 0, .int .i64 3]) ?_ rfl ?_
        · have hD := (P2.out.sets 0 0 (.slice none 0 0) (.slice none 0 0) 0 0 0).cells
          rw [show ((0 : Nat) : Int) = 0 from rfl] at hD
          obtain ⟨d0, d1, d2, d3, d4, d5, d6⟩ := hD
          simp [results, Try.results49, go_sem, d0, d1, d2, d3, d4, d5, d6]
        · rw [E.out]
          exact ⟨_, _, rfl, BtsT.nil _ _, TxT.nil _ _, below_psets G2.out (Nat.le_refl _) _ _ _ _ _ _ _⟩
    · have E := Lib.hid (HB2.out (.inl he2))
      have t1 : ((e2 : Int) != 0) = true := by rw [bne_iff_ne]; omega
      clear hT hN hen hrl he2
      go_enter Try.func49, Try.ntmps49
      go_wp2_with fail
      refine (HT.out _).mono ?_
      rintro e1 w1 ⟨rfl, q1, rfl⟩
      have P1 := Lib.hid (P0.out.kept (grow_draws _ q1))
      have G1 := Lib.hid (G0.out.trans ((grow_draws _ q1).mono (by simp)))
      go_wp2_with fail
      refine (HN.out _).mono ?_
      rintro e2 w2 ⟨rfl, q2, rfl⟩
      have P2 := Lib.hid (P1.out.kept (grow_draws _ q2))
      have G2 := Lib.hid (grow_trans G1.out (grow_draws _ q2))
      generalize World.drewN (World.drewN _ q1) q2 = w2 at *
      obtain ⟨c0, c1, c2, c3, c4, c5, c6⟩ := P2.out.cells
      obtain ⟨f0, f1, f2, f3, f4, f5, f6⟩ := P2.out.free
      go_wp2_with fail
      refine bodyPost_ret (v := .tuple #[prfV 0 0 (.slice none 0 0) (.slice none 0 0) 0 0 0, .int .i64 3]) ?_ rfl ?_
      · have hD := (P2.out.sets 0 0 (.slice none 0 0) (.slice none 0 0) 0 0 0).cells
        rw [show ((0 : Nat) : Int) = 0 from rfl] at hD
        obtain ⟨d0, d1, d2, d3, d4, d5, d6⟩ := hD
        simp [results, Try.results49, go_sem, d0, d1, d2, d3, d4, d5, d6]
      · rw [E.out]
        exact ⟨_, _, rfl, BtsT.nil _ _, TxT.nil _ _, below_psets G2.out (Nat.le_refl _) _ _ _ _ _ _ _⟩
  · have E := Lib.hid (Cr.take_bad1 (n := n) hT he)
    have t1 : ((e : Int) != 0) = true := by rw [bne_iff_ne]; omega
    clear hT hN hen hrl he
    go_enter Try.func49, Try.ntmps49
    go_wp2_with fail
    refine (HT.out _).mono ?_
    rintro e1 w1 ⟨rfl, q1, rfl⟩
    have P1 := Lib.hid (P0.out.kept (grow_draws _ q1))
    have G1 := Lib.hid (G0.out.trans ((grow_draws _ q1).mono (by simp)))
    generalize World.drewN _ q1 = w1 at *
    obtain ⟨c0, c1, c2, c3, c4, c5, c6⟩ := P1.out.cells
    obtain ⟨f0, f1, f2, f3, f4, f5, f6⟩ := P1.out.free
    go_wp2_with fail
    refine bodyPost_ret (v := .tuple #[prfV 0 0 (.slice none 0 0) (.slice none 0 0) 0 0 0, .int .i64 3]) ?_ rfl ?_
    · have hD := (P1.out.sets 0 0 (.slice none 0 0) (.slice none 0 0) 0 0 0).cells
      rw [show ((0 : Nat) : Int) = 0 from rfl] at hD
      obtain ⟨d0, d1, d2, d3, d4, d5, d6⟩ := hD
      simp [results, Try.results49, go_sem, d0, d1, d2, d3, d4, d5, d6]
    · rw [E.out]
      exact ⟨_, _, rfl, BtsT.nil _ _, TxT.nil _ _, below_psets G1.out (Nat.le_refl _) _ _ _ _ _ _ _⟩
end Go.Proofs.Ytbkpekpajeaacaa
