/- Package batch as it landed: Bytes, Take. -/
import Derived.Test.YtmhohnffaffdfaaBatRef
import Derived.Test.YtmhohnffaffdfaaBatBox
import Derived.Test.YtmhohnffaffdfaaDigTakeRowT
import Derived.Test.YtmhohnffaffdfaaDigRow
namespace Go.Proofs.Ytmhohnffaffdfaa
open Go.RowKit

theorem takeRowG_eq {l : List UInt8} {many most : Int} {R : Dg.Res} (h : Dg.takeRow l many most = R) (hl : l.length ≤ 140737488351232) (hs : many ≤ 4294967296 ∨ l.length ≤ 4294967296)
    (m1 : -9223372036854775808 ≤ many) (m2 : many ≤ 9223372036854775807) (o1 : -9223372036854775808 ≤ most) (o2 : most ≤ 9223372036854775807) (w : World) :
    Calls Try.prog 32 #[tx l, .int .i64 many, .int .i64 most] w (TR R w) := by subst h; exact takeRow_gen l many most hl hs m1 m2 o1 o2 w

/-- What a call that takes a batch comes to. -/
def TB (R : Bt.Bat × Nat) (w : World) (e : Ending) (w' : World) : Prop :=
  ∃ v, e = .returned (.tuple #[batV R.1.1 R.1.2.1 v, .int .i64 R.2]) ∧ TxAt w' v R.1.2.2 ∧ TyV w' v ∧ Below w.heap.size w w'

theorem may_wrap {o q : Nat} {l : List (List UInt8)} (ho : o < 18446744073709551616) (hq : q < 18446744073709551616) : Bt.may (wrap64 (o : Int), wrap64 (q : Int), l) = Bt.may ((o : Int), (q : Int), l) := by
  have key : ∀ n : Nat, n < 18446744073709551616 → wrap64 (n : Int) = (n : Int) ∨ (wrap64 (n : Int) < 1 ∧ 9223372036854775808 ≤ n) := by
    intro n hn
    rw [wrap64]; omega
  rw [Bt.may_eq, Bt.may_eq]
  rcases key o ho with e | ⟨e, e'⟩
  · rw [e]
    rcases key q hq with f | ⟨f, f'⟩
    · rw [f]
    · rw [decide_eq_false (show ¬ 1 ≤ wrap64 (q : Int) by omega), decide_eq_false (show ¬ (q : Int) ≤ 1073741824 by omega)]
      simp
  · rw [decide_eq_false (show ¬ 1 ≤ wrap64 (o : Int) by omega), decide_eq_false (show ¬ (o : Int) ≤ 64 by omega)]
    simp
theorem wrap_small (n : Nat) (h : n ≤ 9223372036854775807) : wrap64 (n : Int) = n := by rw [wrap64]; omega

set_option maxHeartbeats 2000000 in
theorem pbtake (s : List UInt8) (hs : s.length ≤ 140737488351232) (w : World) :
    Calls Try.prog 35 #[tx s] w (TB (Bt.take s) w) := by
  obtain ⟨o, a, x, h1⟩ : ∃ o a x, Dg.takeNum s = (o, a, x) := ⟨_, _, _, rfl⟩
  obtain ⟨q, b, y, h2⟩ : ∃ q b y, Dg.takeNum a = (q, b, y) := ⟨_, _, _, rfl⟩
  obtain ⟨l, c, z, h3⟩ : ∃ l c z, Dg.takeRow b 4 48 = (l, c, z) := ⟨_, _, _, rfl⟩
  have la : a.length ≤ s.length := by have := Dg.takeNum_rest s; rw [h1] at this; exact this
  have lb : b.length ≤ a.length := by have := Dg.takeNum_rest a; rw [h2] at this; exact this
  have ho : o < 18446744073709551616 := by have := Dg.takeNum_bound s; rw [h1] at this; exact this
  have hq : q < 18446744073709551616 := by have := Dg.takeNum_bound a; rw [h2] at this; exact this
  have H1 := Lib.hid h1
  have H2 := Lib.hid h2
  have H3 := Lib.hid h3
  by_cases hx : x = 0
  · subst hx
    by_cases hy : y = 0
    · subst hy
      clear h1 h2 h3
      go_enter Try.func35, Try.ntmps35
      go_wp2_with fail
      refine (takeNum_eq H1.out (by omega) _).mono ?_
      rintro e w1 ⟨rfl, k, rfl⟩
      go_wp2_with fail
      refine (takeNum_eq H2.out (by omega) _).mono ?_
      rintro e w1 ⟨rfl, k2, rfl⟩
      go_wp2_with fail
      refine (takeRowG_eq H3.out (by omega) (.inl (by omega)) (by omega) (by omega) (by omega) (by omega) _).mono ?_
      rintro e w1 ⟨v, rfl, hv, ty, hb⟩
      obtain ⟨av, cv, rfl⟩ := hv.len
      have hx0 := ((BBox.new w 0 0 (.slice none 0 0)).kept (grow_trans (grow_draws _ _) hb))
      have hbw : Below w.heap.size w w1 := grow_trans (below_drewN ((Below.refl _ _).alloc (Nat.le_refl _) _) _) hb
      have hs1 := hx0.lt
      obtain ⟨q0, q1, q2, f0, f1, f2⟩ := hx0.facts
      have hx1 := hx0.alloc (.cells #[.int .i64 (wrap64 o), .int .i64 (wrap64 q), .slice av l.length cv] 53)
      obtain ⟨r0, r1, r2, g0, g1, g2⟩ := hx1.facts
      by_cases hz : z = 0
      · subst hz
        by_cases hc : c = []
        · subst hc
          have hll : l.length ≤ 140737488351232 := by have := Dg.takeRow_len b 4 48; rw [H3.out] at this; have := this.1; simp only [] at this; omega
          have hmay := fun W h => pbmay (wrap64 o) (wrap64 q) (.slice av l.length cv) l W h hll
          rw [may_wrap ho hq] at hmay
          cases hm : Bt.may ((o : Int), (q : Int), l) with
          | true =>
            have e4 := Bt.take4 H1.out H2.out H3.out hm
            have hmm := (Bt.may_iff _).1 hm
            rw [wrap_small o (by simp only [] at hmm; omega), wrap_small q (by simp only [] at hmm; omega)] at hmay hx1
            have wo := wrap_small o (by simp only [] at hmm; omega)
            have wq := wrap_small q (by simp only [] at hmm; omega)
            rw [wo, wq] at r0 r1 r2 g0 g1 g2
            rw [hm] at hmay
            have HM := Lib.hid hmay
            have HV := Lib.hid hv
            have TY := Lib.hid ty
            have HB := Lib.hid hbw
            have HX := Lib.hid hx1
            have E4 := Lib.hid e4
            clear ty hv hb hbw hx0 hx1 e4 hmay hm hmm
            go_wp2_with fail
            refine (HM.out _ (HV.out.below ((Below.refl _ _).alloc (Nat.le_refl _) _))).mono ?_
            rintro e w2 ⟨rfl, hb2⟩
            have hx2 := (BBox.new w1 (o : Int) (q : Int) (.slice av l.length cv)).kept hb2
            have hx3 := HX.out.kept hb2
            obtain ⟨u0, u1, u2, _⟩ := hx2.facts
            obtain ⟨_, _, _, v0, v1, v2⟩ := hx3.facts
            have HX3 := Lib.hid hx3
            have HB2 := Lib.hid ((HB.out.alloc HB.out.size (.cells #[.int .i64 o, .int .i64 q, .slice av l.length cv] 53)).trans (hb2.mono (Nat.le_trans HB.out.size (by simp))))
            have HV2 := Lib.hid (HV.out.below (((Below.refl _ _).alloc (Nat.le_refl _) _).trans (hb2.mono (by simp))))
            have TY2 := Lib.hid (TY.out.below (((Below.refl _ _).alloc (Nat.le_refl _) _).trans (hb2.mono (by simp))))
            clear hx2 hx3 hb2 q0 q1 q2 f0 f1 f2 r0 r1 r2 g0 g1 g2
            go_wp2_with fail
            refine bodyPost_ret (v := .tuple #[batV o q (.slice av l.length cv), .int .i64 0]) ?_ rfl ?_
            · obtain ⟨d0, d1, d2, _⟩ := (HX3.out.set o q (.slice av l.length cv)).facts
              simp [results, Try.results35, go_sem, d0, d1, d2]
            · rw [E4.out]
              exact ⟨_, rfl, HV2.out.setB HX3.out _ _ _, ((TY2.out.set _ _ _).set _ _ _).set _ _ _, BBox.set_below HB2.out (Nat.le_refl _) _ _ _⟩
          | false =>
            have e3 := Bt.take3 H1.out H2.out H3.out (.inr (.inr hm))
            rw [hm] at hmay
            have HM := Lib.hid hmay
            have HV := Lib.hid hv
            have TY := Lib.hid ty
            have HB := Lib.hid hbw
            have HX := Lib.hid hx1
            have E3 := Lib.hid e3
            clear ty hv hb hbw hx0 hx1 e3 hmay hm
            go_wp2_with fail
            refine (HM.out _ (HV.out.below ((Below.refl _ _).alloc (Nat.le_refl _) _))).mono ?_
            rintro e w2 ⟨rfl, hb2⟩
            have hx3 := HX.out.kept hb2
            obtain ⟨_, _, _, v0, v1, v2⟩ := hx3.facts
            have HX3 := Lib.hid hx3
            have HB2 := Lib.hid ((HB.out.alloc HB.out.size (.cells #[.int .i64 (wrap64 o), .int .i64 (wrap64 q), .slice av l.length cv] 53)).trans (hb2.mono (Nat.le_trans HB.out.size (by simp))))
            clear hx3 hb2 q0 q1 q2 f0 f1 f2 r0 r1 r2 g0 g1 g2
            go_wp2_with fail
            refine bodyPost_ret (v := .tuple #[batV 0 0 (.slice none 0 0), .int .i64 3]) ?_ rfl ?_
            · obtain ⟨d0, d1, d2, _⟩ := (HX3.out.set 0 0 (.slice none 0 0)).facts
              simp [results, Try.results35, go_sem, d0, d1, d2]
            · rw [E3.out]
              exact ⟨_, rfl, .inl ⟨_, _, rfl, rfl⟩, TyV.nil _ _ _, BBox.set_below HB2.out (Nat.le_refl _) _ _ _⟩
        · have e3 := Bt.take3 H1.out H2.out H3.out (.inr (.inl hc))
          cases c with
          | nil => exact absurd rfl hc
          | cons cx ct =>
            have HV := Lib.hid hv
            have TY := Lib.hid ty
            have HB := Lib.hid hbw
            have HX := Lib.hid hx0
            have E3 := Lib.hid e3
            clear ty hv hb hc hbw hx0 hx1 e3
            go_wp2_with fail
            refine bodyPost_ret (v := .tuple #[batV 0 0 (.slice none 0 0), .int .i64 3]) ?_ rfl ?_
            · obtain ⟨d0, d1, d2, _⟩ := ((HX.out.set 0 0 (.slice none 0 0)).alloc (.cells #[.int .i64 (wrap64 o), .int .i64 (wrap64 q), .slice av l.length cv] 53)).facts
              simp [results, Try.results35, go_sem, d0, d1, d2]
            · rw [E3.out]
              exact ⟨_, rfl, .inl ⟨_, _, rfl, rfl⟩, TyV.nil _ _ _, (BBox.set_below HB.out (Nat.le_refl _) _ _ _).alloc (BBox.set_below HB.out (Nat.le_refl _) 0 0 (.slice none 0 0)).size _⟩
      · have e3 := Bt.take3 H1.out H2.out H3.out (.inl hz)
        have t1 : ((z : Int) != 0) = true := by rw [bne_iff_ne]; omega
        have HV := Lib.hid hv
        have TY := Lib.hid ty
        have HB := Lib.hid hbw
        have HX := Lib.hid hx0
        have E3 := Lib.hid e3
        clear ty hv hb hz hbw hx0 hx1 e3
        go_wp2_with fail
        refine bodyPost_ret (v := .tuple #[batV 0 0 (.slice none 0 0), .int .i64 3]) ?_ rfl ?_
        · obtain ⟨d0, d1, d2, _⟩ := ((HX.out.set 0 0 (.slice none 0 0)).alloc (.cells #[.int .i64 (wrap64 o), .int .i64 (wrap64 q), .slice av l.length cv] 53)).facts
          simp [results, Try.results35, go_sem, d0, d1, d2]
        · rw [E3.out]
          exact ⟨_, rfl, .inl ⟨_, _, rfl, rfl⟩, TyV.nil _ _ _, (BBox.set_below HB.out (Nat.le_refl _) _ _ _).alloc (BBox.set_below HB.out (Nat.le_refl _) 0 0 (.slice none 0 0)).size _⟩
    · rw [Bt.take2 h1 h2 hy]
      have h0' : ((y : Int) != 0) = true := by rw [bne_iff_ne]; omega
      clear h1 h2 h3 hy
      go_enter Try.func35, Try.ntmps35
      go_wp2_with fail
      refine (takeNum_eq H1.out (by omega) _).mono ?_
      rintro e w1 ⟨rfl, k, rfl⟩
      go_wp2_with fail
      refine (takeNum_eq H2.out (by omega) _).mono ?_
      rintro e w1 ⟨rfl, k2, rfl⟩
      go_wp2_with fail
      refine bodyPost_ret (v := .tuple #[batV 0 0 (.slice none 0 0), .int .i64 3]) (by simp [results, Try.results35, go_sem]) rfl ?_
      exact ⟨_, rfl, .inl ⟨_, _, rfl, rfl⟩, TyV.nil _ _ _, BBox.set_below (below_drewN ((Below.refl _ _).alloc (Nat.le_refl _) _) _) (Nat.le_refl _) _ _ _⟩
  · rw [Bt.take1 h1 hx]
    have h0' : ((x : Int) != 0) = true := by rw [bne_iff_ne]; omega
    clear h1 h2 h3 hx
    go_enter Try.func35, Try.ntmps35
    go_wp2_with fail
    refine (takeNum_eq H1.out (by omega) _).mono ?_
    rintro e w1 ⟨rfl, k, rfl⟩
    go_wp2_with fail
    refine bodyPost_ret (v := .tuple #[batV 0 0 (.slice none 0 0), .int .i64 3]) (by simp [results, Try.results35, go_sem]) rfl ?_
    exact ⟨_, rfl, .inl ⟨_, _, rfl, rfl⟩, TyV.nil _ _ _, BBox.set_below (below_drewN ((Below.refl _ _).alloc (Nat.le_refl _) _) _) (Nat.le_refl _) _ _ _⟩
end Go.Proofs.Ytmhohnffaffdfaa
