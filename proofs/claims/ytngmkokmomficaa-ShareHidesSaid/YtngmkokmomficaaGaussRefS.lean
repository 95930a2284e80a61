/- The contracts of the document's answers of layer 3. -/
import Derived.Test.YtngmkokmomficaaGaussInS
namespace Go.Proofs.Ytngmkokmomficaa
open Go.RowKit

attribute [local go_sem] build_el build_el0 build_el1 eq_el guard_el
theorem rmay_in (a b : Int) (h : Valid a b) (w : World) :
    Calls Try.prog 22 #[el a b] w fun e w' => e = .returned (.bool true) ∧ w' = w.alloc (.cells #[.int .i64 a, .int .i64 b] 24) := by
  obtain ⟨h1, h2, h3, h4⟩ := h
  have t1 : decide (0 ≤ a) = true := by simpa using h1
  have t2 : decide (a < 10007) = true := by simpa using h2
  have t3 : decide (0 ≤ b) = true := by simpa using h3
  have t4 : decide (b < 10007) = true := by simpa using h4
  clear h1 h2 h3 h4
  go_enter Try.func22, Try.ntmps22
  go_wp2
  go_ret
  exact ⟨rfl, rfl⟩
theorem rmay_out (a b : Int) (h : ¬ Valid a b) (w : World) :
    Calls Try.prog 22 #[el a b] w fun e w' => e = .returned (.bool false) ∧ w' = w.alloc (.cells #[.int .i64 a, .int .i64 b] 24) := by
  by_cases h1 : 0 ≤ a
  · have t1 : decide (0 ≤ a) = true := by simpa using h1
    by_cases h2 : a < 10007
    · have t2 : decide (a < 10007) = true := by simpa using h2
      by_cases h3 : 0 ≤ b
      · have t3 : decide (0 ≤ b) = true := by simpa using h3
        have t4 : decide (b < 10007) = false := by
          have : ¬ b < 10007 := fun h4 => h ⟨h1, h2, h3, h4⟩
          simpa using this
        clear h h1 h2 h3
        go_enter Try.func22, Try.ntmps22
        go_wp2
        go_ret
        exact ⟨rfl, rfl⟩
      · have t3 : decide (0 ≤ b) = false := by simpa using h3
        clear h h1 h2 h3
        go_enter Try.func22, Try.ntmps22
        go_wp2
        go_ret
        exact ⟨rfl, rfl⟩
    · have t2 : decide (a < 10007) = false := by simpa using h2
      clear h h1 h2
      go_enter Try.func22, Try.ntmps22
      go_wp2
      go_ret
      exact ⟨rfl, rfl⟩
  · have t1 : decide (0 ≤ a) = false := by simpa using h1
    clear h h1
    go_enter Try.func22, Try.ntmps22
    go_wp2
    go_ret
    exact ⟨rfl, rfl⟩

theorem rmay_ok {x : Ga.E} {b : Bool} (h : Ga.ok x = b) (w : World) :
    Calls Try.prog 22 #[elv x] w fun e w' => e = .returned (.bool b) ∧ w' = w.alloc (.cells #[.int .i64 x.1, .int .i64 x.2] 24) := by
  cases b with
  | true => exact rmay_in _ _ (valid_ok h) w
  | false => exact rmay_out _ _ (not_valid h) w

theorem radd_out (x y : Ga.E) (b1 b2 : Bool) (h1 : Ga.ok x = b1) (h2 : Ga.ok y = b2) (hb : b1 = false ∨ (b1 = true ∧ b2 = false)) (w : World) :
    Calls Try.prog 26 #[elv x, elv y] w fun e w' => e = .returned (el 0 0) ∧ Below w.heap.size w w' := by
  have m1 := fun W => rmay_ok h1 W
  have m2 := fun W => rmay_ok h2 W
  obtain ⟨a, b⟩ := x
  obtain ⟨c, d⟩ := y
  clear h1 h2
  rcases hb with rfl | ⟨rfl, rfl⟩
  all_goals
    go_enter Try.func26, Try.ntmps26
    go_wp2_with fail
    refine (m1 _).mono ?_
    rintro e w1 ⟨rfl, rfl⟩
    go_wp2_with fail
    refine (m2 _).mono ?_
    rintro e w1 ⟨rfl, rfl⟩
    go_wp2
    refine bodyPost_ret (v := el 0 0) ?_ rfl ⟨rfl, ?_⟩
    · simp [results, Try.f26, go_sem]
    · refine Below.alloc (Below.alloc (Below.alloc (Below.alloc (Below.alloc (Below.refl _ _) ?_ _) ?_ _) ?_ _) ?_ _) ?_ _ <;> (first | exact Nat.le_refl _ | (simp only [World.size_alloc]; omega))
theorem radd_in (a b c d x y : Int) (h1 : Valid a b) (h2 : Valid c d) (hx : Ga.add (a, b) (c, d) = (x, y)) (w : World) :
    Calls Try.prog 26 #[el a b, el c d] w fun e w' => e = .returned (el x y) ∧ Below w.heap.size w w' := by
  have m1 := fun W => rmay_in a b h1 W
  have m2 := fun W => rmay_in c d h2 W
  rw [Ga.add_ok ((Ga.ok_iff (a, b)).2 h1) ((Ga.ok_iff (c, d)).2 h2), Prod.mk.injEq] at hx
  simp only at hx
  obtain ⟨a1, a2, b1, b2⟩ := h1
  obtain ⟨c1, c2, d1, d2⟩ := h2
  have HX := Lib.hid hx
  clear hx
  go_enter Try.func26, Try.ntmps26
  go_wp2_with fail
  refine (m1 _).mono ?_
  rintro e w1 ⟨rfl, rfl⟩
  go_wp2_with fail
  refine (m2 _).mono ?_
  rintro e w1 ⟨rfl, rfl⟩
  go_wp2
  refine bodyPost_ret (v := el x y) ?_ rfl ⟨rfl, ?_⟩
  · have hx := HX.out
    simp [results, Try.f26, go_sem]
    omega
  · refine Below.alloc (Below.alloc (Below.alloc (Below.alloc (Below.alloc (Below.refl _ _) ?_ _) ?_ _) ?_ _) ?_ _) ?_ _ <;> (first | exact Nat.le_refl _ | (simp only [World.size_alloc]; omega))
theorem radd_eq {x y z : Ga.E} (h : Ga.add x y = z) (w : World) :
    Calls Try.prog 26 #[elv x, elv y] w fun e w' => e = .returned (elv z) ∧ Below w.heap.size w w' := by
  subst h
  cases h1 : Ga.ok x with
  | false =>
    have e : Ga.add x y = (0, 0) := by simp [Ga.add, h1]
    rw [e]
    exact radd_out x y _ _ h1 rfl (.inl rfl) w
  | true =>
    cases h2 : Ga.ok y with
    | false =>
      have e : Ga.add x y = (0, 0) := by simp [Ga.add, h2]
      rw [e]
      exact radd_out x y _ _ h1 h2 (.inr ⟨rfl, rfl⟩) w
    | true => exact radd_in _ _ _ _ _ _ (valid_ok h1) (valid_ok h2) rfl w

theorem rsub_out (x y : Ga.E) (b1 b2 : Bool) (h1 : Ga.ok x = b1) (h2 : Ga.ok y = b2) (hb : b1 = false ∨ (b1 = true ∧ b2 = false)) (w : World) :
    Calls Try.prog 25 #[elv x, elv y] w fun e w' => e = .returned (el 0 0) ∧ Below w.heap.size w w' := by
  have m1 := fun W => rmay_ok h1 W
  have m2 := fun W => rmay_ok h2 W
  obtain ⟨a, b⟩ := x
  obtain ⟨c, d⟩ := y
  clear h1 h2
  rcases hb with rfl | ⟨rfl, rfl⟩
  all_goals
    go_enter Try.func25, Try.ntmps25
    go_wp2_with fail
    refine (m1 _).mono ?_
    rintro e w1 ⟨rfl, rfl⟩
    go_wp2_with fail
    refine (m2 _).mono ?_
    rintro e w1 ⟨rfl, rfl⟩
    go_wp2
    refine bodyPost_ret (v := el 0 0) ?_ rfl ⟨rfl, ?_⟩
    · simp [results, Try.f25, go_sem]
    · refine Below.alloc (Below.alloc (Below.alloc (Below.alloc (Below.alloc (Below.refl _ _) ?_ _) ?_ _) ?_ _) ?_ _) ?_ _ <;> (first | exact Nat.le_refl _ | (simp only [World.size_alloc]; omega))
theorem rsub_in (a b c d x y : Int) (h1 : Valid a b) (h2 : Valid c d) (hx : Ga.sub (a, b) (c, d) = (x, y)) (w : World) :
    Calls Try.prog 25 #[el a b, el c d] w fun e w' => e = .returned (el x y) ∧ Below w.heap.size w w' := by
  have m1 := fun W => rmay_in a b h1 W
  have m2 := fun W => rmay_in c d h2 W
  rw [Ga.sub_ok ((Ga.ok_iff (a, b)).2 h1) ((Ga.ok_iff (c, d)).2 h2), Prod.mk.injEq] at hx
  simp only at hx
  obtain ⟨a1, a2, b1, b2⟩ := h1
  obtain ⟨c1, c2, d1, d2⟩ := h2
  have HX := Lib.hid hx
  clear hx
  go_enter Try.func25, Try.ntmps25
  go_wp2_with fail
  refine (m1 _).mono ?_
  rintro e w1 ⟨rfl, rfl⟩
  go_wp2_with fail
  refine (m2 _).mono ?_
  rintro e w1 ⟨rfl, rfl⟩
  go_wp2
  refine bodyPost_ret (v := el x y) ?_ rfl ⟨rfl, ?_⟩
  · have hx := HX.out
    simp [results, Try.f25, go_sem]
    omega
  · refine Below.alloc (Below.alloc (Below.alloc (Below.alloc (Below.alloc (Below.refl _ _) ?_ _) ?_ _) ?_ _) ?_ _) ?_ _ <;> (first | exact Nat.le_refl _ | (simp only [World.size_alloc]; omega))
theorem rsub_eq {x y z : Ga.E} (h : Ga.sub x y = z) (w : World) :
    Calls Try.prog 25 #[elv x, elv y] w fun e w' => e = .returned (elv z) ∧ Below w.heap.size w w' := by
  subst h
  cases h1 : Ga.ok x with
  | false =>
    have e : Ga.sub x y = (0, 0) := by simp [Ga.sub, h1]
    rw [e]
    exact rsub_out x y _ _ h1 rfl (.inl rfl) w
  | true =>
    cases h2 : Ga.ok y with
    | false =>
      have e : Ga.sub x y = (0, 0) := by simp [Ga.sub, h2]
      rw [e]
      exact rsub_out x y _ _ h1 h2 (.inr ⟨rfl, rfl⟩) w
    | true => exact rsub_in _ _ _ _ _ _ (valid_ok h1) (valid_ok h2) rfl w

theorem rmul_out (x y : Ga.E) (b1 b2 : Bool) (h1 : Ga.ok x = b1) (h2 : Ga.ok y = b2) (hb : b1 = false ∨ (b1 = true ∧ b2 = false)) (w : World) :
    Calls Try.prog 24 #[elv x, elv y] w fun e w' => e = .returned (el 0 0) ∧ Below w.heap.size w w' := by
  have m1 := fun W => rmay_ok h1 W
  have m2 := fun W => rmay_ok h2 W
  obtain ⟨a, b⟩ := x
  obtain ⟨c, d⟩ := y
  clear h1 h2
  rcases hb with rfl | ⟨rfl, rfl⟩
  all_goals
    go_enter Try.func24, Try.ntmps24
    go_wp2_with fail
    refine (m1 _).mono ?_
    rintro e w1 ⟨rfl, rfl⟩
    go_wp2_with fail
    refine (m2 _).mono ?_
    rintro e w1 ⟨rfl, rfl⟩
    go_wp2
    refine bodyPost_ret (v := el 0 0) ?_ rfl ⟨rfl, ?_⟩
    · simp [results, Try.f24, go_sem]
    · refine Below.alloc (Below.alloc (Below.alloc (Below.alloc (Below.alloc (Below.refl _ _) ?_ _) ?_ _) ?_ _) ?_ _) ?_ _ <;> (first | exact Nat.le_refl _ | (simp only [World.size_alloc]; omega))
theorem rmul_in (a b c d x y : Int) (h1 : Valid a b) (h2 : Valid c d) (hx : Ga.mul (a, b) (c, d) = (x, y)) (w : World) :
    Calls Try.prog 24 #[el a b, el c d] w fun e w' => e = .returned (el x y) ∧ Below w.heap.size w w' := by
  have m1 := fun W => rmay_in a b h1 W
  have m2 := fun W => rmay_in c d h2 W
  rw [Ga.mul_ok ((Ga.ok_iff (a, b)).2 h1) ((Ga.ok_iff (c, d)).2 h2), Prod.mk.injEq] at hx
  simp only at hx
  obtain ⟨a1, a2, b1, b2⟩ := h1
  obtain ⟨c1, c2, d1, d2⟩ := h2
  have p1 := prod_bound a1 a2 c1 c2
  have p2 := prod_bound b1 b2 d1 d2
  have p3 := prod_bound a1 a2 d1 d2
  have p4 := prod_bound b1 b2 c1 c2
  have HX := Lib.hid hx
  clear hx
  go_enter Try.func24, Try.ntmps24
  go_wp2_with fail
  refine (m1 _).mono ?_
  rintro e w1 ⟨rfl, rfl⟩
  go_wp2_with fail
  refine (m2 _).mono ?_
  rintro e w1 ⟨rfl, rfl⟩
  go_wp2
  refine bodyPost_ret (v := el x y) ?_ rfl ⟨rfl, ?_⟩
  · have hx := HX.out
    simp [results, Try.f24, go_sem]
    omega
  · refine Below.alloc (Below.alloc (Below.alloc (Below.alloc (Below.alloc (Below.refl _ _) ?_ _) ?_ _) ?_ _) ?_ _) ?_ _ <;> (first | exact Nat.le_refl _ | (simp only [World.size_alloc]; omega))
theorem rmul_eq {x y z : Ga.E} (h : Ga.mul x y = z) (w : World) :
    Calls Try.prog 24 #[elv x, elv y] w fun e w' => e = .returned (elv z) ∧ Below w.heap.size w w' := by
  subst h
  cases h1 : Ga.ok x with
  | false =>
    have e : Ga.mul x y = (0, 0) := by simp [Ga.mul, h1]
    rw [e]
    exact rmul_out x y _ _ h1 rfl (.inl rfl) w
  | true =>
    cases h2 : Ga.ok y with
    | false =>
      have e : Ga.mul x y = (0, 0) := by simp [Ga.mul, h2]
      rw [e]
      exact rmul_out x y _ _ h1 h2 (.inr ⟨rfl, rfl⟩) w
    | true => exact rmul_in _ _ _ _ _ _ (valid_ok h1) (valid_ok h2) rfl w
end Go.Proofs.Ytngmkokmomficaa
