/- The contracts of the document's answers of layer 3: powers, inverses. -/
import Derived.Test.YtngmkokmomficaaGaussRef2S
namespace Go.Proofs.Ytngmkokmomficaa
open Go.RowKit

attribute [local go_sem] build_el build_el0 build_el1 eq_el guard_el

theorem whole_range : ∀ (f : Nat) (o v : Int) (n : Nat), 0 ≤ o → o < 10007 → 0 ≤ Ga.wholeL f o v n ∧ Ga.wholeL f o v n < 10007 := by
  intro f
  induction f with
  | zero => intro o v n h1 h2; exact ⟨h1, h2⟩
  | succ f ih =>
    intro o v n h1 h2
    rw [Ga.wholeL]
    split
    · exact ⟨h1, h2⟩
    · apply ih
      · split
        · omega
        · exact h1
      · split
        · omega
        · exact h2
theorem norm_range (x : Ga.E) : 0 ≤ Ga.norm x ∧ Ga.norm x < 10007 := by
  unfold Ga.norm
  split <;> omega

theorem rinv_in (a b : Int) (h : Ga.ok (a, b) = true) (h0 : (a == 0) = false ∨ ((a == 0) = true ∧ (b == 0) = false)) (x y : Int) (hx : (a * Ga.whole (Ga.norm (a, b)) % 10007, (10007 - b) % 10007 * Ga.whole (Ga.norm (a, b)) % 10007) = (x, y)) (w : World) :
    Calls Try.prog 23 #[el a b] w fun e w' => e = .returned (.tuple #[el x y, .int .i64 0]) ∧ Below w.heap.size w w' := by
  have hm := fun W => rmay_ok h W
  obtain ⟨m, hmm⟩ : ∃ m, Ga.norm (a, b) = m := ⟨_, rfl⟩
  have mr := norm_range (a, b)
  have hn := fun W => rnorm_eq hmm W
  rw [hmm] at hx mr
  obtain ⟨k, hk⟩ : ∃ k, Ga.whole m = k := ⟨_, rfl⟩
  have kr := whole_range 64 1 m 10005 (by omega) (by omega)
  have hw := fun W => rwhole_eq hk mr.1 mr.2 W
  rw [show Ga.wholeL 64 1 m 10005 = k from hk] at kr
  rw [hk, Prod.mk.injEq] at hx
  obtain ⟨a1, a2, b1, b2⟩ := valid_ok h
  have p1 := prod_bound a1 a2 kr.1 kr.2
  have p2 := prod_bound (a := -b % 10007) (by omega) (by omega) kr.1 kr.2
  rw [show (10007 - b) % 10007 = -b % 10007 by omega] at hx
  clear h hmm hk mr
  have HX := Lib.hid hx
  have q1 : 0 ≤ 10007 - b := by omega
  clear hx
  rcases h0 with t1 | ⟨t1, t2⟩
  all_goals
    go_enter Try.func23, Try.ntmps23
    go_wp2_with fail
    refine (hm _).mono ?_
    rintro e w1 ⟨rfl, rfl⟩
    go_wp2_with fail
    refine (hn _).mono ?_
    rintro e w1 ⟨rfl, hb⟩
    have hx1 := (((EBox.new w a b).alloc (.cells #[.int .i64 0, .int .i64 0] 24)).alloc (.cells #[.int .i64 a, .int .i64 b] 24)).kept hb
    have hx2 := ((EBox.new (w.alloc (.cells #[.int .i64 a, .int .i64 b] 24)) 0 0).alloc (.cells #[.int .i64 a, .int .i64 b] 24)).kept hb
    simp only [World.size_alloc] at hx2
    obtain ⟨c0, c1, f0, f1⟩ := hx1.facts
    obtain ⟨c20, c21, f20, f21⟩ := hx2.facts
    go_wp2_with fail
    refine (hw _).mono ?_
    rintro e w2 ⟨rfl, rfl⟩
    go_wp2
    refine bodyPost_ret (v := .tuple #[el x y, .int .i64 0]) ?_ rfl ⟨rfl, ?_⟩
    · obtain ⟨g1, g2⟩ := HX.out
      obtain ⟨d0, d1, _, _⟩ := (hx2.set x y).facts
      rw [g1, g2]
      simp [results, Try.f23, go_sem, d0, d1]
    · have hb0 : Below w.heap.size w w2 := (((((Below.refl _ w).alloc (Nat.le_refl _) _).alloc (by simp) _).alloc (by simp; omega) _).trans (hb.mono (by simp; omega)))
      exact (hb0.setCell (p := ⟨w.heap.size + 1, 0, none⟩) (by simp) _).setCell (p := ⟨w.heap.size + 1, 1, none⟩) (by simp) _

theorem rinv_out (a b : Int) (h : Ga.ok (a, b) = false ∨ (Ga.ok (a, b) = true ∧ a = 0 ∧ b = 0)) (w : World) :
    Calls Try.prog 23 #[el a b] w fun e w' => e = .returned (.tuple #[el 0 0, .int .i64 1]) ∧ Below w.heap.size w w' := by
  rcases h with h | ⟨h, rfl, rfl⟩
  · have hm := fun W => rmay_ok h W
    clear h
    go_enter Try.func23, Try.ntmps23
    go_wp2_with fail
    refine (hm _).mono ?_
    rintro e w1 ⟨rfl, rfl⟩
    go_wp2
    refine bodyPost_ret (v := .tuple #[el 0 0, .int .i64 1]) ?_ rfl ⟨rfl, ?_⟩
    · simp [results, Try.f23, go_sem]
    · refine Below.alloc (Below.alloc (Below.alloc (Below.refl _ _) ?_ _) ?_ _) ?_ _ <;> (first | exact Nat.le_refl _ | (simp only [World.size_alloc]; omega))
  · have hm := fun W => rmay_ok h W
    clear h
    go_enter Try.func23, Try.ntmps23
    go_wp2_with fail
    refine (hm _).mono ?_
    rintro e w1 ⟨rfl, rfl⟩
    go_wp2
    refine bodyPost_ret (v := .tuple #[el 0 0, .int .i64 1]) ?_ rfl ⟨rfl, ?_⟩
    · simp [results, Try.f23, go_sem]
    · refine Below.alloc (Below.alloc (Below.alloc (Below.refl _ _) ?_ _) ?_ _) ?_ _ <;> (first | exact Nat.le_refl _ | (simp only [World.size_alloc]; omega))
theorem rinv_eq {x z : Ga.E} {c : Int} (hz : Ga.invR x = (z, c)) (w : World) :
    Calls Try.prog 23 #[elv x] w fun e w' => e = .returned (.tuple #[elv z, .int .i64 c]) ∧ Below w.heap.size w w' := by
  obtain ⟨a, b⟩ := x
  obtain ⟨p, q⟩ := z
  cases h : Ga.ok (a, b) with
  | false =>
    have e : Ga.invR (a, b) = ((0, 0), 1) := by simp [Ga.invR, h]
    rw [e, Prod.mk.injEq] at hz
    obtain ⟨h1, rfl⟩ := hz
    rw [← h1]
    exact rinv_out a b (.inl h) w
  | true =>
    by_cases h0 : (a, b) = (0, 0)
    · have e : Ga.invR (a, b) = ((0, 0), 1) := by rw [Ga.invR, decide_eq_false (fun hn => hn h0)]; simp
      rw [e, Prod.mk.injEq] at hz
      obtain ⟨h1, rfl⟩ := hz
      rw [← h1]
      rw [Prod.mk.injEq] at h0
      exact rinv_out a b (.inr ⟨h, h0.1, h0.2⟩) w
    · have e : Ga.invR (a, b) = ((a * Ga.whole (Ga.norm (a, b)) % 10007, (10007 - b) % 10007 * Ga.whole (Ga.norm (a, b)) % 10007), 0) := by rw [Ga.invR, decide_eq_true h0, h]; simp
      rw [e, Prod.mk.injEq] at hz
      obtain ⟨h1, rfl⟩ := hz
      have hne : (a == 0) = false ∨ ((a == 0) = true ∧ (b == 0) = false) := by
        by_cases h1 : a = 0
        · exact .inr ⟨beq_iff_eq.2 h1, beq_eq_false_iff_ne.2 fun h2 => h0 (by rw [h1, h2])⟩
        · exact .inl (beq_eq_false_iff_ne.2 h1)
      exact rinv_in a b h hne p q h1 w
end Go.Proofs.Ytngmkokmomficaa
