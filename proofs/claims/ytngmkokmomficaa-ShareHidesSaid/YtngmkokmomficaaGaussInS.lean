/- Package gauss as it landed: norms, inverses, numbers as elements. -/
import Derived.Test.YtngmkokmomficaaGaussPow
import Derived.Laws.StructEq
namespace Go.Proofs.Ytngmkokmomficaa
open Go.RowKit

/-- Two elements are the same where both numbers are. -/
theorem eq_el (a b c d : Int) (w : World) : (Op.equalIn 10000 24 (el a b) (el c d)).run Try.prog w = .ok (a == c && b == d) w := by
  have hS : Try.prog.underlying 24 = some (.struct (Try.prog.fieldsOf 24)) := by kernel_rfl
  have hp : Try.prog.stoodInHeld 24 = false := by kernel_rfl
  have u1 := Try.underlying3
  rw [show (10000 : Nat) = 9999 + 1 from rfl, run_equalIn_agg w 9999 24 _ _ hS hp]
  simp only [Program.fieldsOf, Try.underlying24]
  go_simp
  by_cases h1 : a = c <;> by_cases h2 : b = d <;> simp [h1, h2]
theorem guard_el (op : BinOp) (o1 o2 : Operand) (xs ys : Array Value) (w : World) : (eqGuard op 24 o1 o2 (.agg xs) (.agg ys)).run Try.prog w = .ok () w := run_eqGuard_agg w op 24 o1 o2 xs ys (by kernel_rfl)
attribute [local go_sem] build_el build_el0 build_el1 eq_el guard_el

theorem pinv_any (x : Ga.E) (w : World) :
    Calls Try.prog 40 #[elv x] w fun e w' => e = .returned (.tuple #[elv (Ga.inv x).1, .int .i64 (Ga.inv x).2]) ∧ Below w.heap.size w w' := by
  cases h : Ga.ok x with
  | false =>
    have hm := fun W => pmay_ok h W
    have e : Ga.inv x = ((0, 0), 1) := by simp [Ga.inv, h]
    rw [e]
    clear h e
    go_enter Try.func40, Try.ntmps40
    go_wp2_with fail
    refine (hm _).mono ?_
    rintro e w1 ⟨rfl, rfl⟩
    go_wp2
    refine bodyPost_ret (v := .tuple #[el 0 0, .int .i64 1]) ?_ rfl ⟨rfl, ?_⟩
    · simp [results, Try.f40, go_sem]
    · refine Below.alloc (Below.alloc (Below.alloc (Below.refl _ _) ?_ _) ?_ _) ?_ _ <;> (first | exact Nat.le_refl _ | (simp only [World.size_alloc]; omega))
  | true =>
    have hm := fun W => pmay_ok h W
    by_cases h0 : x = (0, 0)
    · have e : Ga.inv x = ((0, 0), 1) := by simp [Ga.inv, h0]
      rw [e]
      subst h0
      clear h e
      go_enter Try.func40, Try.ntmps40
      go_wp2_with fail
      refine (hm _).mono ?_
      rintro e w1 ⟨rfl, rfl⟩
      go_wp2
      refine bodyPost_ret (v := .tuple #[el 0 0, .int .i64 1]) ?_ rfl ⟨rfl, ?_⟩
      · simp [results, Try.f40, go_sem]
      · refine Below.alloc (Below.alloc (Below.alloc (Below.refl _ _) ?_ _) ?_ _) ?_ _ <;> (first | exact Nat.le_refl _ | (simp only [World.size_alloc]; omega))
    · have e : Ga.inv x = (Ga.pow x 100140047, 0) := by simp [Ga.inv, h, h0]
      have hp : Ga.pow x 100140047 = Ga.powL 64 (1, 0) x 100140047 := by rw [Ga.pow, if_pos h]
      have hpow := fun W => ppow_in x 100140047 (by decide) h W
      rw [e, hp]
      generalize Ga.powL 64 (1, 0) x 100140047 = z at *
      have hne : (x.1 == 0) = false ∨ ((x.1 == 0) = true ∧ (x.2 == 0) = false) := by
        by_cases h1 : x.1 = 0
        · exact .inr ⟨beq_iff_eq.2 h1, beq_eq_false_iff_ne.2 fun h2 => h0 (Prod.ext h1 h2)⟩
        · exact .inl (beq_eq_false_iff_ne.2 h1)
      clear e hp h h0
      rcases hne with t1 | ⟨t1, t2⟩
      all_goals
        go_enter Try.func40, Try.ntmps40
        go_wp2_with fail
        refine (hm _).mono ?_
        rintro e w1 ⟨rfl, rfl⟩
        go_wp2_with fail
        refine (hpow _).mono ?_
        rintro e w1 ⟨rfl, hb⟩
        have hx := ((EBox.new (w.alloc (.cells #[.int .i64 x.1, .int .i64 x.2] 24)) 0 0).alloc (.cells #[.int .i64 x.1, .int .i64 x.2] 24)).kept hb
        simp only [World.size_alloc] at hx
        obtain ⟨c0, c1, f0, f1⟩ := hx.facts
        go_wp2
        refine bodyPost_ret (v := .tuple #[elv z, .int .i64 0]) ?_ rfl ⟨rfl, ?_⟩
        · obtain ⟨d0, d1, _, _⟩ := (hx.set z.1 z.2).facts
          simp [results, Try.f40, go_sem, d0, d1]
        · have hb0 : Below w.heap.size w w1 := (((((Below.refl _ w).alloc (Nat.le_refl _) _).alloc (by simp) _).alloc (by simp; omega) _).trans (hb.mono (by simp; omega)))
          exact (hb0.setCell (p := ⟨w.heap.size + 1, 0, none⟩) (by simp) _).setCell (p := ⟨w.heap.size + 1, 1, none⟩) (by simp) _

theorem ppow_any (x : Ga.E) (n : Nat) (hn : n < 18446744073709551616) (w : World) :
    Calls Try.prog 44 #[elv x, .int .u64 n] w fun e w' => e = .returned (elv (Ga.pow x n)) ∧ Below w.heap.size w w' := by
  cases h : Ga.ok x with
  | false =>
    have e : Ga.pow x n = (0, 0) := by rw [Ga.pow, h]; rfl
    rw [e]
    exact ppow_out x n h w
  | true =>
    have e : Ga.pow x n = Ga.powL 64 (1, 0) x n := by rw [Ga.pow, if_pos h]
    rw [e]
    exact ppow_in x n hn h w

end Go.Proofs.Ytngmkokmomficaa
