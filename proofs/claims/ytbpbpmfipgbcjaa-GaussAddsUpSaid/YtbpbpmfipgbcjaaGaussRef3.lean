/- The contracts of the document's answers of layer 3: powers, inverses. -/
import Derived.Test.YtbpbpmfipgbcjaaGaussRef2
namespace Go.Proofs.Ytbpbpmfipgbcjaa
open Go.RowKit

attribute [local go_sem] build_el build_el0 build_el1 eq_el guard_el

set_option maxHeartbeats 4000000 in
set_option maxRecDepth 100000 in
theorem rpow_in (x : Ga.E) (n : Nat) (hn : n < 18446744073709551616) (h : Ga.ok x = true) (w : World) :
    Calls Try.prog 25 #[elv x, .int .u64 n] w fun e w' => e = .returned (elv (Ga.powL 64 (1, 0) x n)) ∧ Below w.heap.size w w' := by
  have hm := fun W => rmay_ok h W
  clear h
  obtain ⟨R, hR⟩ : ∃ R, Ga.powL 64 (1, 0) x n = R := ⟨_, rfl⟩
  rw [hR]
  have HR := Lib.hid hR
  clear hR
  go_enter Try.func25, Try.ntmps25
  go_wp2_with fail
  refine (hm _).mono ?_
  rintro e w1 ⟨rfl, rfl⟩
  have h1 := (((EBox.new w x.1 x.2).alloc (.cells #[.int .i64 0, .int .i64 0] 23)).alloc (.cells #[.int .i64 x.1, .int .i64 x.2] 23)).alloc (.cells #[.int .i64 1, .int .i64 0] 23)
  have h2 := ((EBox.new (w.alloc (.cells #[.int .i64 x.1, .int .i64 x.2] 23)) 0 0).alloc (.cells #[.int .i64 x.1, .int .i64 x.2] 23)).alloc (.cells #[.int .i64 1, .int .i64 0] 23)
  have h3 := EBox.new (((w.alloc (.cells #[.int .i64 x.1, .int .i64 x.2] 23)).alloc (.cells #[.int .i64 0, .int .i64 0] 23)).alloc (.cells #[.int .i64 x.1, .int .i64 x.2] 23)) 1 0
  have hb : Below w.heap.size w ((((w.alloc (.cells #[.int .i64 x.1, .int .i64 x.2] 23)).alloc (.cells #[.int .i64 0, .int .i64 0] 23)).alloc (.cells #[.int .i64 x.1, .int .i64 x.2] 23)).alloc (.cells #[.int .i64 1, .int .i64 0] 23)) := by
    refine Below.alloc (Below.alloc (Below.alloc (Below.alloc (Below.refl _ _) ?_ _) ?_ _) ?_ _) ?_ _ <;> (first | exact Nat.le_refl _ | (simp only [World.size_alloc]; omega))
  simp only [World.size_alloc] at h2 h3
  go_wp2_with fail
  go_loopw [1] (fun y wr => ∃ (m : Nat) (p q : Ga.E), y = .int .u64 m ∧ PowAt w.heap.size R w wr m p q) (fun y _ => (intOf y).toNat)
  case atStart => exact ⟨n, x, (1, 0), rfl, h1, h2, h3, hb, hn, 64, hn, HR.out⟩
  case round =>
    clear h1 h2 h3 hb HR hm hn
    obtain ⟨m, p, q, rfl, h1, h2, h3, hb, hm64, f, hf, hp⟩ := hrel
    by_cases h0 : m = 0
    · subst h0
      have hres : q = R := by rw [← hp]; exact (powL_stop _ _ _ _ rfl).symm
      subst hres
      obtain ⟨c40, c41, f40, f41⟩ := h2.facts
      obtain ⟨c50, c51, f50, f51⟩ := h3.facts
      clear hp hf
      go_wp2
      refine bodyPost_ret (v := elv q) ?_ rfl ⟨rfl, ?_⟩
      · obtain ⟨d0, d1, _, _⟩ := (h2.set q.1 q.2).facts
        simp [results, Try.f25, go_sem, d0, d1]
      · exact (hb.setCell (p := ⟨w.heap.size + 1, 0, none⟩) (by simp) _).setCell (p := ⟨w.heap.size + 1, 1, none⟩) (by simp) _
    · have t0 : decide ((0 : Int) < (m : Int)) = true := by simp; omega
      obtain ⟨p2, hp2⟩ : ∃ z, Ga.mul p p = z := ⟨_, rfl⟩
      obtain ⟨c20, c21, f20, f21⟩ := h1.facts
      obtain ⟨c50, c51, f50, f51⟩ := h3.facts
      by_cases hodd : m % 2 = 1
      · have t1 : ((m : Int) % 2 == 1) = true := by rw [beq_iff_eq]; omega
        obtain ⟨q2, hq2⟩ : ∃ z, Ga.mul q p = z := ⟨_, rfl⟩
        obtain ⟨g, hg, hgr⟩ := powL_odd f q p q2 p2 m hf hodd hq2 hp2
        rw [hgr] at hp
        have HP := Lib.hid hp
        have HG := Lib.hid hg
        have HM := Lib.hid hp2
        have HQ := Lib.hid hq2
        have hhalf : m / 2 < m := by omega
        clear hp hg hgr hp2 hq2 hf hodd
        go_wp2_with fail
        refine (rmul_eq HQ.out _).mono ?_
        rintro e w1 ⟨rfl, hb1⟩
        have a1 := h1.kept hb1
        have a2 := h2.kept hb1
        have a3 := h3.kept hb1
        have ab := grow_trans hb hb1
        clear c20 c21 f20 f21 c50 c51 f50 f51 h1 h2 h3 hb hb1
        obtain ⟨c20, c21, f20, f21⟩ := a1.facts
        obtain ⟨c50, c51, f50, f51⟩ := a3.facts
        have b1 := (a1.other (w.heap.size + 1 + 1 + 1) 0 (.int .i64 q2.1) (by omega)).other (w.heap.size + 1 + 1 + 1) 1 (.int .i64 q2.2) (by omega)
        have b2 := (a2.other (w.heap.size + 1 + 1 + 1) 0 (.int .i64 q2.1) (by omega)).other (w.heap.size + 1 + 1 + 1) 1 (.int .i64 q2.2) (by omega)
        have b3 := a3.set q2.1 q2.2
        have bb := (ab.setCell (p := ⟨w.heap.size + 1 + 1 + 1, 0, none⟩) (by simp; omega) (.int .i64 q2.1)).setCell (p := ⟨w.heap.size + 1 + 1 + 1, 1, none⟩) (by simp; omega) (.int .i64 q2.2)
        go_wp2_with fail
        clear c20 c21 f20 f21 c50 c51 f50 f51 a1 a2 a3 ab
        refine (rmul_eq HM.out _).mono ?_
        rintro e w2 ⟨rfl, hb2⟩
        have e1 := b1.kept hb2
        have e2 := b2.kept hb2
        have e3 := b3.kept hb2
        have eb := grow_trans bb hb2
        clear b1 b2 b3 bb hb2
        obtain ⟨c20, c21, f20, f21⟩ := e1.facts
        go_wp2
        go_roundw
        case rel => exact ⟨m / 2, p2, q2, by go_num, e1.set p2.1 p2.2, (e2.other _ 0 _ (by omega)).other _ 1 _ (by omega), (e3.other _ 0 _ (by omega)).other _ 1 _ (by omega), (eb.setCell (p := ⟨w.heap.size, 0, none⟩) (by simp) _).setCell (p := ⟨w.heap.size, 1, none⟩) (by simp) _, by omega, g, HG.out, HP.out⟩
        case measure => simp [intOf]; omega
      · have t1 : ((m : Int) % 2 == 1) = false := by rw [beq_eq_false_iff_ne]; omega
        obtain ⟨g, hg, hgr⟩ := powL_even f q p p2 m hf h0 hodd hp2
        rw [hgr] at hp
        have HP := Lib.hid hp
        have HG := Lib.hid hg
        have HM := Lib.hid hp2
        have hhalf : m / 2 < m := by omega
        clear hp hg hgr hp2 hf hodd
        go_wp2_with fail
        refine (rmul_eq HM.out _).mono ?_
        rintro e w2 ⟨rfl, hb2⟩
        have e1 := h1.kept hb2
        have e2 := h2.kept hb2
        have e3 := h3.kept hb2
        have eb := grow_trans hb hb2
        clear c20 c21 f20 f21 c50 c51 f50 f51 h1 h2 h3 hb hb2
        obtain ⟨c20, c21, f20, f21⟩ := e1.facts
        go_wp2
        go_roundw
        case rel => exact ⟨m / 2, p2, q, by go_num, e1.set p2.1 p2.2, (e2.other _ 0 _ (by omega)).other _ 1 _ (by omega), (e3.other _ 0 _ (by omega)).other _ 1 _ (by omega), (eb.setCell (p := ⟨w.heap.size, 0, none⟩) (by simp) _).setCell (p := ⟨w.heap.size, 1, none⟩) (by simp) _, by omega, g, HG.out, HP.out⟩
        case measure => simp [intOf]; omega

theorem rpow_out (x : Ga.E) (n : Nat) (h : Ga.ok x = false) (w : World) :
    Calls Try.prog 25 #[elv x, .int .u64 n] w fun e w' => e = .returned (elv (0, 0)) ∧ Below w.heap.size w w' := by
  have hm := fun W => rmay_ok h W
  obtain ⟨a, b⟩ := x
  clear h
  go_enter Try.func25, Try.ntmps25
  go_wp2_with fail
  refine (hm _).mono ?_
  rintro e w1 ⟨rfl, rfl⟩
  go_wp2
  refine bodyPost_ret (v := el 0 0) ?_ rfl ⟨rfl, ?_⟩
  · simp [results, Try.f25, go_sem]
  · refine Below.alloc (Below.alloc (Below.alloc (Below.refl _ _) ?_ _) ?_ _) ?_ _ <;> (first | exact Nat.le_refl _ | (simp only [World.size_alloc]; omega))
theorem rpow_eq {x z : Ga.E} {n : Nat} (hz : Ga.pow x n = z) (hn : n < 18446744073709551616) (w : World) :
    Calls Try.prog 25 #[elv x, .int .u64 n] w fun e w' => e = .returned (elv z) ∧ Below w.heap.size w w' := by
  subst hz
  cases h : Ga.ok x with
  | false =>
    have e : Ga.pow x n = (0, 0) := by rw [Ga.pow, h]; rfl
    rw [e]
    exact rpow_out x n h w
  | true =>
    have e : Ga.pow x n = Ga.powL 64 (1, 0) x n := by rw [Ga.pow, if_pos h]
    rw [e]
    exact rpow_in x n hn h w

theorem whole_range : ∀ (f : Nat) (o v : Int) (n : Nat), 0 ≤ o → o < 10007 → 0 ≤ Ga.wholeL f o v n ∧ Ga.wholeL f o v n < 10007 := by
  intro f
  induction f with
  | zero => intro o v n h1 h2; exact ⟨h1, h2⟩
  | succ f ih =>
    intro o v n h1 h2
    rw [Ga.wholeL]
    split
    · exact ⟨h1, h2⟩
    · apply ih
      · split
        · omega
        · exact h1
      · split
        · omega
        · exact h2
theorem norm_range (x : Ga.E) : 0 ≤ Ga.norm x ∧ Ga.norm x < 10007 := by
  unfold Ga.norm
  split <;> omega

theorem rinv_in (a b : Int) (h : Ga.ok (a, b) = true) (h0 : (a == 0) = false ∨ ((a == 0) = true ∧ (b == 0) = false)) (x y : Int) (hx : (a * Ga.whole (Ga.norm (a, b)) % 10007, (10007 - b) % 10007 * Ga.whole (Ga.norm (a, b)) % 10007) = (x, y)) (w : World) :
    Calls Try.prog 29 #[el a b] w fun e w' => e = .returned (.tuple #[el x y, .int .i64 0]) ∧ Below w.heap.size w w' := by
  have hm := fun W => rmay_ok h W
  obtain ⟨m, hmm⟩ : ∃ m, Ga.norm (a, b) = m := ⟨_, rfl⟩
  have mr := norm_range (a, b)
  have hn := fun W => rnorm_eq hmm W
  rw [hmm] at hx mr
  obtain ⟨k, hk⟩ : ∃ k, Ga.whole m = k := ⟨_, rfl⟩
  have kr := whole_range 64 1 m 10005 (by omega) (by omega)
  have hw := fun W => rwhole_eq hk mr.1 mr.2 W
  rw [show Ga.wholeL 64 1 m 10005 = k from hk] at kr
  rw [hk, Prod.mk.injEq] at hx
  obtain ⟨a1, a2, b1, b2⟩ := valid_ok h
  have p1 := prod_bound a1 a2 kr.1 kr.2
  have p2 := prod_bound (a := -b % 10007) (by omega) (by omega) kr.1 kr.2
  rw [show (10007 - b) % 10007 = -b % 10007 by omega] at hx
  clear h hmm hk mr
  have HX := Lib.hid hx
  have q1 : 0 ≤ 10007 - b := by omega
  clear hx
  rcases h0 with t1 | ⟨t1, t2⟩
  all_goals
    go_enter Try.func29, Try.ntmps29
    go_wp2_with fail
    refine (hm _).mono ?_
    rintro e w1 ⟨rfl, rfl⟩
    go_wp2_with fail
    refine (hn _).mono ?_
    rintro e w1 ⟨rfl, hb⟩
    have hx1 := (((EBox.new w a b).alloc (.cells #[.int .i64 0, .int .i64 0] 23)).alloc (.cells #[.int .i64 a, .int .i64 b] 23)).kept hb
    have hx2 := ((EBox.new (w.alloc (.cells #[.int .i64 a, .int .i64 b] 23)) 0 0).alloc (.cells #[.int .i64 a, .int .i64 b] 23)).kept hb
    simp only [World.size_alloc] at hx2
    obtain ⟨c0, c1, f0, f1⟩ := hx1.facts
    obtain ⟨c20, c21, f20, f21⟩ := hx2.facts
    go_wp2_with fail
    refine (hw _).mono ?_
    rintro e w2 ⟨rfl, rfl⟩
    go_wp2
    refine bodyPost_ret (v := .tuple #[el x y, .int .i64 0]) ?_ rfl ⟨rfl, ?_⟩
    · obtain ⟨g1, g2⟩ := HX.out
      obtain ⟨d0, d1, _, _⟩ := (hx2.set x y).facts
      rw [g1, g2]
      simp [results, Try.f29, go_sem, d0, d1]
    · have hb0 : Below w.heap.size w w2 := (((((Below.refl _ w).alloc (Nat.le_refl _) _).alloc (by simp) _).alloc (by simp; omega) _).trans (hb.mono (by simp; omega)))
      exact (hb0.setCell (p := ⟨w.heap.size + 1, 0, none⟩) (by simp) _).setCell (p := ⟨w.heap.size + 1, 1, none⟩) (by simp) _

theorem rinv_out (a b : Int) (h : Ga.ok (a, b) = false ∨ (Ga.ok (a, b) = true ∧ a = 0 ∧ b = 0)) (w : World) :
    Calls Try.prog 29 #[el a b] w fun e w' => e = .returned (.tuple #[el 0 0, .int .i64 1]) ∧ Below w.heap.size w w' := by
  rcases h with h | ⟨h, rfl, rfl⟩
  · have hm := fun W => rmay_ok h W
    clear h
    go_enter Try.func29, Try.ntmps29
    go_wp2_with fail
    refine (hm _).mono ?_
    rintro e w1 ⟨rfl, rfl⟩
    go_wp2
    refine bodyPost_ret (v := .tuple #[el 0 0, .int .i64 1]) ?_ rfl ⟨rfl, ?_⟩
    · simp [results, Try.f29, go_sem]
    · refine Below.alloc (Below.alloc (Below.alloc (Below.refl _ _) ?_ _) ?_ _) ?_ _ <;> (first | exact Nat.le_refl _ | (simp only [World.size_alloc]; omega))
  · have hm := fun W => rmay_ok h W
    clear h
    go_enter Try.func29, Try.ntmps29
    go_wp2_with fail
    refine (hm _).mono ?_
    rintro e w1 ⟨rfl, rfl⟩
    go_wp2
    refine bodyPost_ret (v := .tuple #[el 0 0, .int .i64 1]) ?_ rfl ⟨rfl, ?_⟩
    · simp [results, Try.f29, go_sem]
    · refine Below.alloc (Below.alloc (Below.alloc (Below.refl _ _) ?_ _) ?_ _) ?_ _ <;> (first | exact Nat.le_refl _ | (simp only [World.size_alloc]; omega))
theorem rinv_eq {x z : Ga.E} {c : Int} (hz : Ga.invR x = (z, c)) (w : World) :
    Calls Try.prog 29 #[elv x] w fun e w' => e = .returned (.tuple #[elv z, .int .i64 c]) ∧ Below w.heap.size w w' := by
  obtain ⟨a, b⟩ := x
  obtain ⟨p, q⟩ := z
  cases h : Ga.ok (a, b) with
  | false =>
    have e : Ga.invR (a, b) = ((0, 0), 1) := by simp [Ga.invR, h]
    rw [e, Prod.mk.injEq] at hz
    obtain ⟨h1, rfl⟩ := hz
    rw [← h1]
    exact rinv_out a b (.inl h) w
  | true =>
    by_cases h0 : (a, b) = (0, 0)
    · have e : Ga.invR (a, b) = ((0, 0), 1) := by rw [Ga.invR, decide_eq_false (fun hn => hn h0)]; simp
      rw [e, Prod.mk.injEq] at hz
      obtain ⟨h1, rfl⟩ := hz
      rw [← h1]
      rw [Prod.mk.injEq] at h0
      exact rinv_out a b (.inr ⟨h, h0.1, h0.2⟩) w
    · have e : Ga.invR (a, b) = ((a * Ga.whole (Ga.norm (a, b)) % 10007, (10007 - b) % 10007 * Ga.whole (Ga.norm (a, b)) % 10007), 0) := by rw [Ga.invR, decide_eq_true h0, h]; simp
      rw [e, Prod.mk.injEq] at hz
      obtain ⟨h1, rfl⟩ := hz
      have hne : (a == 0) = false ∨ ((a == 0) = true ∧ (b == 0) = false) := by
        by_cases h1 : a = 0
        · exact .inr ⟨beq_iff_eq.2 h1, beq_eq_false_iff_ne.2 fun h2 => h0 (by rw [h1, h2])⟩
        · exact .inl (beq_eq_false_iff_ne.2 h1)
      exact rinv_in a b h hne p q h1 w
end Go.Proofs.Ytbpbpmfipgbcjaa
