/- Package gauss as it landed: sums, differences, products. -/
import Derived.Test.YtngmkokmomficaaGaussGo
import Derived.Test.YtngmkokmomficaaGaussMath
import Derived.Deep.RegionWith
namespace Go.Proofs.Ytngmkokmomficaa
open Go.RowKit

attribute [local go_sem] build_el build_el0 build_el1

/-- An element's pair as a value. -/
abbrev elv (x : Ga.E) : Value := el x.1 x.2
theorem valid_ok {a b : Int} (h : Ga.ok (a, b) = true) : Valid a b := (Ga.ok_iff (a, b)).1 h
theorem not_valid {a b : Int} (h : Ga.ok (a, b) = false) : ¬ Valid a b := fun hv => by rw [(Ga.ok_iff (a, b)).2 hv] at h; cases h

theorem pcombine_out1 (a b c d : Int) (f : Value) (h : ¬ Valid a b) (w : World) :
    Calls Try.prog 36 #[el a b, el c d, f] w fun e w' => e = .returned (el 0 0) ∧ Below w.heap.size w w' := by
  have m1 := fun W => pmay_out a b h W
  clear h
  go_enter Try.func36, Try.ntmps36
  go_wp2_with fail
  refine (m1 _).mono ?_
  rintro e w1 ⟨rfl, rfl⟩
  go_wp2
  refine bodyPost_ret (v := el 0 0) ?_ rfl ⟨rfl, ?_⟩
  · simp [results, Try.f36, go_sem]
  · refine Below.alloc (Below.alloc (Below.alloc (Below.alloc (Below.refl _ _) ?_ _) ?_ _) ?_ _) ?_ _ <;> (first | exact Nat.le_refl _ | (simp only [World.size_alloc]; omega))
theorem pcombine_out2 (a b c d : Int) (f : Value) (h1 : Valid a b) (h : ¬ Valid c d) (w : World) :
    Calls Try.prog 36 #[el a b, el c d, f] w fun e w' => e = .returned (el 0 0) ∧ Below w.heap.size w w' := by
  have m1 := fun W => pmay_in a b h1 W
  have m2 := fun W => pmay_out c d h W
  clear h h1
  go_enter Try.func36, Try.ntmps36
  go_wp2_with fail
  refine (m1 _).mono ?_
  rintro e w1 ⟨rfl, rfl⟩
  go_wp2_with fail
  refine (m2 _).mono ?_
  rintro e w1 ⟨rfl, rfl⟩
  go_wp2
  refine bodyPost_ret (v := el 0 0) ?_ rfl ⟨rfl, ?_⟩
  · simp [results, Try.f36, go_sem]
  · refine Below.alloc (Below.alloc (Below.alloc (Below.alloc (Below.alloc (Below.refl _ _) ?_ _) ?_ _) ?_ _) ?_ _) ?_ _ <;> (first | exact Nat.le_refl _ | (simp only [World.size_alloc]; omega))

set_option maxHeartbeats 1000000 in
theorem pcombine_add (a b c d x y : Int) (h1 : Valid a b) (h2 : Valid c d) (hd : Does 37 a b c d x y) (hx : x.natAbs < 2 ^ 29) (hy : y.natAbs < 2 ^ 29) (w : World) :
    Calls Try.prog 36 #[el a b, el c d, .func (.func 37) #[] #[]] w fun e w' => e = .returned (el (x % 10007) (y % 10007)) ∧ Below w.heap.size w w' := by
  have he := fun W => pelement_any x y hx hy W
  have m1 := fun W => pmay_in a b h1 W
  have m2 := fun W => pmay_in c d h2 W
  unfold Does at hd
  generalize x % 10007 = x1 at *
  generalize y % 10007 = y1 at *
  generalize Fl.F x = f at *
  generalize Fl.F y = g at *
  clear h1 h2 hx hy
  go_enter Try.func36, Try.ntmps36
  go_wp2_with fail
  refine (m1 _).mono ?_
  rintro e w1 ⟨rfl, rfl⟩
  go_wp2_with fail
  refine (m2 _).mono ?_
  rintro e w1 ⟨rfl, rfl⟩
  go_wp2_with fail
  go_region_with (first | (go_at_call 42; refine (pnumber_any _ _ _).mono ?_; rintro e w1 ⟨rfl, rfl⟩) | (go_at_call 41; refine (he _).mono ?_; rintro e w1 ⟨rfl, rfl⟩) | (go_at_call 37; refine (hd _).mono ?_; rintro e w1 ⟨rfl, rfl⟩))
  all_goals go_wp2
  all_goals refine bodyPost_ret (v := el x1 y1) ?_ rfl ⟨rfl, ?_⟩
  all_goals first | (simp [results, Try.f36, go_sem]; done) | (refine Below.drew (Below.alloc (Below.alloc (Below.alloc (Below.alloc (Below.alloc (Below.alloc (Below.alloc (Below.alloc (Below.refl _ _) ?_ _) ?_ _) ?_ _) ?_ _) ?_ _) ?_ _) ?_ _) ?_ _) <;> (first | exact Nat.le_refl _ | (simp only [World.size_alloc]; omega)))
theorem combine_add (x y : Ga.E) (w : World) :
    Calls Try.prog 36 #[elv x, elv y, .func (.func 37) #[] #[]] w fun e w' => e = .returned (elv (Ga.add x y)) ∧ Below w.heap.size w w' := by
  obtain ⟨a, b⟩ := x
  obtain ⟨c, d⟩ := y
  cases h1 : Ga.ok (a, b) with
  | false =>
    have e : Ga.add (a, b) (c, d) = (0, 0) := by simp [Ga.add, h1]
    rw [e]
    exact pcombine_out1 a b c d _ (not_valid h1) w
  | true =>
    cases h2 : Ga.ok (c, d) with
    | false =>
      have e : Ga.add (a, b) (c, d) = (0, 0) := by simp [Ga.add, h2]
      rw [e]
      exact pcombine_out2 a b c d _ (valid_ok h1) (not_valid h2) w
    | true =>
      rw [Ga.add_ok h1 h2]
      have v1 := valid_ok h1
      have v2 := valid_ok h2
      have hd := does_add a b c d v1 v2
      obtain ⟨a1, a2, b1, b2⟩ := v1
      obtain ⟨c1, c2, d1, d2⟩ := v2
      have e29 : (400480144 : Nat) < 2 ^ 29 := by decide
      have p1 := prod_bound a1 a2 c1 c2
      have p2 := prod_bound b1 b2 d1 d2
      have p3 := prod_bound a1 a2 d1 d2
      have p4 := prod_bound b1 b2 c1 c2
      exact pcombine_add a b c d _ _ (valid_ok h1) (valid_ok h2) hd (by omega) (by omega) w

set_option maxHeartbeats 1000000 in
theorem pcombine_sub (a b c d x y : Int) (h1 : Valid a b) (h2 : Valid c d) (hd : Does 43 a b c d x y) (hx : x.natAbs < 2 ^ 29) (hy : y.natAbs < 2 ^ 29) (w : World) :
    Calls Try.prog 36 #[el a b, el c d, .func (.func 43) #[] #[]] w fun e w' => e = .returned (el (x % 10007) (y % 10007)) ∧ Below w.heap.size w w' := by
  have he := fun W => pelement_any x y hx hy W
  have m1 := fun W => pmay_in a b h1 W
  have m2 := fun W => pmay_in c d h2 W
  unfold Does at hd
  generalize x % 10007 = x1 at *
  generalize y % 10007 = y1 at *
  generalize Fl.F x = f at *
  generalize Fl.F y = g at *
  clear h1 h2 hx hy
  go_enter Try.func36, Try.ntmps36
  go_wp2_with fail
  refine (m1 _).mono ?_
  rintro e w1 ⟨rfl, rfl⟩
  go_wp2_with fail
  refine (m2 _).mono ?_
  rintro e w1 ⟨rfl, rfl⟩
  go_wp2_with fail
  go_region_with (first | (go_at_call 42; refine (pnumber_any _ _ _).mono ?_; rintro e w1 ⟨rfl, rfl⟩) | (go_at_call 41; refine (he _).mono ?_; rintro e w1 ⟨rfl, rfl⟩) | (go_at_call 43; refine (hd _).mono ?_; rintro e w1 ⟨rfl, rfl⟩))
  all_goals go_wp2
  all_goals refine bodyPost_ret (v := el x1 y1) ?_ rfl ⟨rfl, ?_⟩
  all_goals first | (simp [results, Try.f36, go_sem]; done) | (refine Below.drew (Below.alloc (Below.alloc (Below.alloc (Below.alloc (Below.alloc (Below.alloc (Below.alloc (Below.alloc (Below.refl _ _) ?_ _) ?_ _) ?_ _) ?_ _) ?_ _) ?_ _) ?_ _) ?_ _) <;> (first | exact Nat.le_refl _ | (simp only [World.size_alloc]; omega)))
theorem combine_sub (x y : Ga.E) (w : World) :
    Calls Try.prog 36 #[elv x, elv y, .func (.func 43) #[] #[]] w fun e w' => e = .returned (elv (Ga.sub x y)) ∧ Below w.heap.size w w' := by
  obtain ⟨a, b⟩ := x
  obtain ⟨c, d⟩ := y
  cases h1 : Ga.ok (a, b) with
  | false =>
    have e : Ga.sub (a, b) (c, d) = (0, 0) := by simp [Ga.sub, h1]
    rw [e]
    exact pcombine_out1 a b c d _ (not_valid h1) w
  | true =>
    cases h2 : Ga.ok (c, d) with
    | false =>
      have e : Ga.sub (a, b) (c, d) = (0, 0) := by simp [Ga.sub, h2]
      rw [e]
      exact pcombine_out2 a b c d _ (valid_ok h1) (not_valid h2) w
    | true =>
      rw [Ga.sub_ok h1 h2]
      have v1 := valid_ok h1
      have v2 := valid_ok h2
      have hd := does_sub a b c d v1 v2
      obtain ⟨a1, a2, b1, b2⟩ := v1
      obtain ⟨c1, c2, d1, d2⟩ := v2
      have e29 : (400480144 : Nat) < 2 ^ 29 := by decide
      have p1 := prod_bound a1 a2 c1 c2
      have p2 := prod_bound b1 b2 d1 d2
      have p3 := prod_bound a1 a2 d1 d2
      have p4 := prod_bound b1 b2 c1 c2
      exact pcombine_sub a b c d _ _ (valid_ok h1) (valid_ok h2) hd (by omega) (by omega) w

set_option maxHeartbeats 1000000 in
theorem pcombine_mul (a b c d x y : Int) (h1 : Valid a b) (h2 : Valid c d) (hd : Does 38 a b c d x y) (hx : x.natAbs < 2 ^ 29) (hy : y.natAbs < 2 ^ 29) (w : World) :
    Calls Try.prog 36 #[el a b, el c d, .func (.func 38) #[] #[]] w fun e w' => e = .returned (el (x % 10007) (y % 10007)) ∧ Below w.heap.size w w' := by
  have he := fun W => pelement_any x y hx hy W
  have m1 := fun W => pmay_in a b h1 W
  have m2 := fun W => pmay_in c d h2 W
  unfold Does at hd
  generalize x % 10007 = x1 at *
  generalize y % 10007 = y1 at *
  generalize Fl.F x = f at *
  generalize Fl.F y = g at *
  clear h1 h2 hx hy
  go_enter Try.func36, Try.ntmps36
  go_wp2_with fail
  refine (m1 _).mono ?_
  rintro e w1 ⟨rfl, rfl⟩
  go_wp2_with fail
  refine (m2 _).mono ?_
  rintro e w1 ⟨rfl, rfl⟩
  go_wp2_with fail
  go_region_with (first | (go_at_call 42; refine (pnumber_any _ _ _).mono ?_; rintro e w1 ⟨rfl, rfl⟩) | (go_at_call 41; refine (he _).mono ?_; rintro e w1 ⟨rfl, rfl⟩) | (go_at_call 38; refine (hd _).mono ?_; rintro e w1 ⟨rfl, rfl⟩))
  all_goals go_wp2
  all_goals refine bodyPost_ret (v := el x1 y1) ?_ rfl ⟨rfl, ?_⟩
  all_goals first | (simp [results, Try.f36, go_sem]; done) | (refine Below.drew (Below.alloc (Below.alloc (Below.alloc (Below.alloc (Below.alloc (Below.alloc (Below.alloc (Below.alloc (Below.refl _ _) ?_ _) ?_ _) ?_ _) ?_ _) ?_ _) ?_ _) ?_ _) ?_ _) <;> (first | exact Nat.le_refl _ | (simp only [World.size_alloc]; omega)))
theorem combine_mul (x y : Ga.E) (w : World) :
    Calls Try.prog 36 #[elv x, elv y, .func (.func 38) #[] #[]] w fun e w' => e = .returned (elv (Ga.mul x y)) ∧ Below w.heap.size w w' := by
  obtain ⟨a, b⟩ := x
  obtain ⟨c, d⟩ := y
  cases h1 : Ga.ok (a, b) with
  | false =>
    have e : Ga.mul (a, b) (c, d) = (0, 0) := by simp [Ga.mul, h1]
    rw [e]
    exact pcombine_out1 a b c d _ (not_valid h1) w
  | true =>
    cases h2 : Ga.ok (c, d) with
    | false =>
      have e : Ga.mul (a, b) (c, d) = (0, 0) := by simp [Ga.mul, h2]
      rw [e]
      exact pcombine_out2 a b c d _ (valid_ok h1) (not_valid h2) w
    | true =>
      rw [Ga.mul_ok h1 h2]
      have v1 := valid_ok h1
      have v2 := valid_ok h2
      have hd := does_mul a b c d v1 v2
      obtain ⟨a1, a2, b1, b2⟩ := v1
      obtain ⟨c1, c2, d1, d2⟩ := v2
      have e29 : (400480144 : Nat) < 2 ^ 29 := by decide
      have p1 := prod_bound a1 a2 c1 c2
      have p2 := prod_bound b1 b2 d1 d2
      have p3 := prod_bound a1 a2 d1 d2
      have p4 := prod_bound b1 b2 c1 c2
      exact pcombine_mul a b c d _ _ (valid_ok h1) (valid_ok h2) hd (by omega) (by omega) w
end Go.Proofs.Ytngmkokmomficaa
