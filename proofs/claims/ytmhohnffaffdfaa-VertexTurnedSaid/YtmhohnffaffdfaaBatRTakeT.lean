/- The document's Take of a batch. -/
import Derived.Test.YtmhohnffaffdfaaBatTakeT
import Derived.Test.YtmhohnffaffdfaaDigRTakeRowT
namespace Go.Proofs.Ytmhohnffaffdfaa
open Go.RowKit

theorem rtakeRowG_eq {l : List UInt8} {many most : Int} {R : Dg.Res} (h : Dg.takeRow l many most = R) (hl : l.length ≤ 140737488351232) (hs : many ≤ 4294967296 ∨ l.length ≤ 4294967296)
    (m1 : -9223372036854775808 ≤ many) (m2 : many ≤ 9223372036854775807) (o1 : -9223372036854775808 ≤ most) (o2 : most ≤ 9223372036854775807) (w : World) :
    Calls Try.prog 17 #[tx l, .int .i64 many, .int .i64 most] w (TR R w) := by subst h; exact rtakeRow_gen l many most hl hs m1 m2 o1 o2 w

set_option maxHeartbeats 2000000 in
theorem rbtake (s : List UInt8) (hs : s.length ≤ 140737488351232) (w : World) :
    Calls Try.prog 18 #[tx s] w (TB (Bt.take s) w) := by
  obtain ⟨o, a, x, h1⟩ : ∃ o a x, Dg.takeNum s = (o, a, x) := ⟨_, _, _, rfl⟩
  obtain ⟨q, b, y, h2⟩ : ∃ q b y, Dg.takeNum a = (q, b, y) := ⟨_, _, _, rfl⟩
  obtain ⟨l, c, z, h3⟩ : ∃ l c z, Dg.takeRow b 4 48 = (l, c, z) := ⟨_, _, _, rfl⟩
  have la : a.length ≤ s.length := by have := Dg.takeNum_rest s; rw [h1] at this; exact this
  have lb : b.length ≤ a.length := by have := Dg.takeNum_rest a; rw [h2] at this; exact this
  have H1 := Lib.hid h1
  have H2 := Lib.hid h2
  have H3 := Lib.hid h3
  clear h1 h2 h3
  by_cases hx : x = 0
  · subst hx
    by_cases h64 : 64 < o
    · have E := Lib.hid (Bt.takeO H1.out h64)
      have t1 : decide (64 < (o : Int)) = true := decide_eq_true (by omega)
      clear h64
      go_enter Try.func18, Try.ntmps18
      go_wp2_with fail
      refine (rtakeNum_eq H1.out (by omega) _).mono ?_
      rintro e w1 ⟨rfl, k, rfl⟩
      go_wp2_with fail
      refine bodyPost_ret (v := .tuple #[batV 0 0 (.slice none 0 0), .int .i64 3]) (by simp [results, Try.results18, go_sem]) rfl ?_
      rw [E.out]
      exact ⟨_, rfl, .inl ⟨_, _, rfl, rfl⟩, TyV.nil _ _ _, BBox.set_below (below_drewN ((Below.refl _ _).alloc (Nat.le_refl _) _) _) (Nat.le_refl _) _ _ _⟩
    have t1 : decide (64 < (o : Int)) = false := decide_eq_false (by omega)
    have wo := wrap_small o (by omega)
    by_cases hy : y = 0
    · subst hy
      by_cases hq : 1073741824 < q
      · have E := Lib.hid (Bt.takeQ H1.out H2.out hq)
        have t2 : decide (1073741824 < (q : Int)) = true := decide_eq_true (by omega)
        clear h64 hq
        go_enter Try.func18, Try.ntmps18
        go_wp2_with fail
        refine (rtakeNum_eq H1.out (by omega) _).mono ?_
        rintro e w1 ⟨rfl, k, rfl⟩
        go_wp2_with fail
        refine (rtakeNum_eq H2.out (by omega) _).mono ?_
        rintro e w1 ⟨rfl, k2, rfl⟩
        go_wp2_with fail
        refine bodyPost_ret (v := .tuple #[batV 0 0 (.slice none 0 0), .int .i64 3]) (by simp [results, Try.results18, go_sem]) rfl ?_
        rw [E.out]
        exact ⟨_, rfl, .inl ⟨_, _, rfl, rfl⟩, TyV.nil _ _ _, BBox.set_below (below_drewN ((Below.refl _ _).alloc (Nat.le_refl _) _) _) (Nat.le_refl _) _ _ _⟩
      have t2 : decide (1073741824 < (q : Int)) = false := decide_eq_false (by omega)
      have wq := wrap_small q (by omega)
      have hll : l.length ≤ 140737488351232 := by have := Dg.takeRow_len b 4 48; rw [H3.out] at this; have := this.1; simp only [] at this; omega
      clear h64 hq
      go_enter Try.func18, Try.ntmps18
      go_wp2_with fail
      refine (rtakeNum_eq H1.out (by omega) _).mono ?_
      rintro e w1 ⟨rfl, k, rfl⟩
      go_wp2_with fail
      refine (rtakeNum_eq H2.out (by omega) _).mono ?_
      rintro e w1 ⟨rfl, k2, rfl⟩
      go_wp2_with fail
      refine (rtakeRowG_eq H3.out (by omega) (.inl (by omega)) (by omega) (by omega) (by omega) (by omega) _).mono ?_
      rintro e w1 ⟨v, rfl, hv, ty, hb⟩
      obtain ⟨av, cv, rfl⟩ := hv.len
      have hx0 := ((BBox.new w 0 0 (.slice none 0 0)).kept (grow_trans (grow_draws _ _) hb))
      have hbw : Below w.heap.size w w1 := grow_trans (below_drewN ((Below.refl _ _).alloc (Nat.le_refl _) _) _) hb
      have hs1 := hx0.lt
      have hx1 := hx0.alloc (.cells #[.int .i64 o, .int .i64 q, .slice av l.length cv] 53)
      have hmay := fun W h => rbmay o q (.slice av l.length cv) l W h
      obtain ⟨r, hr⟩ : ∃ r, Bt.may ((o : Int), (q : Int), l) = r := ⟨_, rfl⟩
      rw [hr] at hmay
      have HR := Lib.hid hr
      have HM := Lib.hid hmay
      have HV := Lib.hid hv
      have TY := Lib.hid ty
      have HB := Lib.hid hbw
      have HX := Lib.hid hx1
      clear ty hr hmay hv hbw hx1 hx0 hb
      go_wp2_with fail
      refine (HM.out _ (HV.out.below ((Below.refl _ _).alloc (Nat.le_refl _) _))).mono ?_
      rintro e w2 ⟨rfl, hb2⟩
      have hx2 := (BBox.new w1 (o : Int) (q : Int) (.slice av l.length cv)).kept hb2
      have hx3 := HX.out.kept hb2
      obtain ⟨u0, u1, u2, _⟩ := hx2.facts
      obtain ⟨_, _, _, v0, v1, v2⟩ := hx3.facts
      have HX3 := Lib.hid hx3
      have HB2 := Lib.hid ((HB.out.alloc HB.out.size (.cells #[.int .i64 o, .int .i64 q, .slice av l.length cv] 53)).trans (hb2.mono (Nat.le_trans HB.out.size (by simp))))
      have HV2 := Lib.hid (HV.out.below (((Below.refl _ _).alloc (Nat.le_refl _) _).trans (hb2.mono (by simp))))
      have TY2 := Lib.hid (TY.out.below (((Below.refl _ _).alloc (Nat.le_refl _) _).trans (hb2.mono (by simp))))
      clear hx2 hx3 hb2
      by_cases hz : z = 0
      · subst hz
        cases c with
        | nil =>
          cases r with
          | true =>
            have E := Lib.hid (Bt.take4 H1.out H2.out H3.out HR.out)
            go_wp2_with fail
            refine bodyPost_ret (v := .tuple #[batV o q (.slice av l.length cv), .int .i64 0]) ?_ rfl ?_
            · obtain ⟨d0, d1, d2, _⟩ := (HX3.out.set o q (.slice av l.length cv)).facts
              simp [results, Try.results18, go_sem, d0, d1, d2]
            · rw [E.out]
              exact ⟨_, rfl, HV2.out.setB HX3.out _ _ _, ((TY2.out.set _ _ _).set _ _ _).set _ _ _, BBox.set_below HB2.out (Nat.le_refl _) _ _ _⟩
          | false =>
            have E := Lib.hid (Bt.take3 H1.out H2.out H3.out (.inr (.inr HR.out)))
            go_wp2_with fail
            refine bodyPost_ret (v := .tuple #[batV 0 0 (.slice none 0 0), .int .i64 3]) ?_ rfl ?_
            · obtain ⟨d0, d1, d2, _⟩ := (HX3.out.set 0 0 (.slice none 0 0)).facts
              simp [results, Try.results18, go_sem, d0, d1, d2]
            · rw [E.out]
              exact ⟨_, rfl, .inl ⟨_, _, rfl, rfl⟩, TyV.nil _ _ _, BBox.set_below HB2.out (Nat.le_refl _) _ _ _⟩
        | cons cx ct =>
          have E := Lib.hid (Bt.take3 H1.out H2.out H3.out (.inr (.inl (by simp))))
          go_wp2_with fail
          refine bodyPost_ret (v := .tuple #[batV 0 0 (.slice none 0 0), .int .i64 3]) ?_ rfl ?_
          · obtain ⟨d0, d1, d2, _⟩ := (HX3.out.set 0 0 (.slice none 0 0)).facts
            simp [results, Try.results18, go_sem, d0, d1, d2]
          · rw [E.out]
            exact ⟨_, rfl, .inl ⟨_, _, rfl, rfl⟩, TyV.nil _ _ _, BBox.set_below HB2.out (Nat.le_refl _) _ _ _⟩
      · have E := Lib.hid (Bt.take3 H1.out H2.out H3.out (.inl hz))
        have t3 : ((z : Int) != 0) = true := by rw [bne_iff_ne]; omega
        clear hz
        go_wp2_with fail
        refine bodyPost_ret (v := .tuple #[batV 0 0 (.slice none 0 0), .int .i64 3]) ?_ rfl ?_
        · obtain ⟨d0, d1, d2, _⟩ := (HX3.out.set 0 0 (.slice none 0 0)).facts
          simp [results, Try.results18, go_sem, d0, d1, d2]
        · rw [E.out]
          exact ⟨_, rfl, .inl ⟨_, _, rfl, rfl⟩, TyV.nil _ _ _, BBox.set_below HB2.out (Nat.le_refl _) _ _ _⟩
    · have E := Lib.hid (Bt.take2 H1.out H2.out hy)
      have t3 : ((y : Int) != 0) = true := by rw [bne_iff_ne]; omega
      clear h64 hy
      go_enter Try.func18, Try.ntmps18
      go_wp2_with fail
      refine (rtakeNum_eq H1.out (by omega) _).mono ?_
      rintro e w1 ⟨rfl, k, rfl⟩
      go_wp2_with fail
      refine (rtakeNum_eq H2.out (by omega) _).mono ?_
      rintro e w1 ⟨rfl, k2, rfl⟩
      go_wp2_with fail
      refine bodyPost_ret (v := .tuple #[batV 0 0 (.slice none 0 0), .int .i64 3]) (by simp [results, Try.results18, go_sem]) rfl ?_
      rw [E.out]
      exact ⟨_, rfl, .inl ⟨_, _, rfl, rfl⟩, TyV.nil _ _ _, BBox.set_below (below_drewN ((Below.refl _ _).alloc (Nat.le_refl _) _) _) (Nat.le_refl _) _ _ _⟩
  · have E := Lib.hid (Bt.take1 H1.out hx)
    have t3 : ((x : Int) != 0) = true := by rw [bne_iff_ne]; omega
    clear hx
    go_enter Try.func18, Try.ntmps18
    go_wp2_with fail
    refine (rtakeNum_eq H1.out (by omega) _).mono ?_
    rintro e w1 ⟨rfl, k, rfl⟩
    go_wp2_with fail
    refine bodyPost_ret (v := .tuple #[batV 0 0 (.slice none 0 0), .int .i64 3]) (by simp [results, Try.results18, go_sem]) rfl ?_
    rw [E.out]
    exact ⟨_, rfl, .inl ⟨_, _, rfl, rfl⟩, TyV.nil _ _ _, BBox.set_below (below_drewN ((Below.refl _ _).alloc (Nat.le_refl _) _) _) (Nat.le_refl _) _ _ _⟩
end Go.Proofs.Ytmhohnffaffdfaa
