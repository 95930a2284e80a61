/- Package gauss as it landed: what its functions do with floats. -/
import Derived.Test.YtngmkokmomficaaBase
import Derived.Test.YtngmkokmomficaaFlOps
import GoSem.Extern.MathFloor
namespace Go.Proofs.Ytngmkokmomficaa
open Go.RowKit

theorem call_archFloor (args : Array Value) (w : World) : (callFunc 47 args).run Try.prog w = ((Extern.MathFloor.toIntegral "math.archFloor" .down args).run Try.prog w).andThen fun v w' => .ok (.value v) w' :=
  run_callFunc_extern Try.func47 (by kernel_rfl) (by kernel_rfl) (by kernel_rfl) (by kernel_rfl) args w

theorem pfloor_any (q r : Nat) (h : ∀ w, (Extern.MathFloor.toIntegral "math.archFloor" .down #[.float .f64 q]).run Try.prog w = .ok (.float .f64 r) w) (w : World) :
    Calls Try.prog 46 #[.float .f64 q] w fun e w' => e = .returned (.float .f64 r) ∧ w' = w := by
  have hop : ∀ w, (callFunc 47 #[.float .f64 q]).run Try.prog w = .ok (.value (.float .f64 r)) w := fun w => by rw [call_archFloor, h]; rfl
  go_enter Try.func46, Try.ntmps46
  go_wp2_with (simp only [hop])
  go_ret
  exact ⟨rfl, rfl⟩

theorem pmodulo_any (a : Int) (hb : a.natAbs < 2 ^ 29) (w : World) :
    Calls Try.prog 45 #[.float .f64 (Fl.F a)] w fun e w' => e = .returned (.int .i64 (a % 10007)) ∧ w' = w := by
  obtain ⟨q, hq, hf⟩ := Fl.f64_floor hb
  have hfl := fun W => pfloor_any q _ (hf Try.prog) W
  have b1 : a.natAbs < 2 ^ 53 := Nat.lt_of_lt_of_le hb (by decide)
  have b2 : (a / 10007).natAbs < 2 ^ 53 := by have : (2:Nat) ^ 29 ≤ 2 ^ 53 := by decide
                                              omega
  have b3 : (10007 * (a / 10007)).natAbs < 2 ^ 53 := by have : (2:Nat) ^ 29 + 20014 ≤ 2 ^ 53 := by decide
                                                        omega
  have e4 : a - 10007 * (a / 10007) = a % 10007 := by omega
  have b4 : (a % 10007).natAbs < 2 ^ 53 := by have : (10007:Nat) ≤ 2 ^ 53 := by decide
                                              omega
  have hm := Fl.f64_mul (a := 10007) (b := a / 10007) (by decide) b2 (by omega) b3
  have hs := Fl.f64_sub (a := a) (b := 10007 * (a / 10007)) b1 b3 (by rw [e4]; exact b4)
  have hk := Fl.f64_back b4
  rw [Fl.F_prime] at hm
  rw [e4] at hs
  have o1 : ∀ t w, (binOp .quo t (.float .f64 (Fl.F a)) (.float .f64 4666727020758040576)).run Try.prog w = .ok (.float .f64 q) w := fun t w => run_float_arith w .quo t .f64 _ _ _ hq
  have o2 : ∀ t w, (binOp .mul t (.float .f64 4666727020758040576) (.float .f64 (Fl.F (a / 10007)))).run Try.prog w = .ok (.float .f64 (Fl.F (10007 * (a / 10007)))) w := fun t w => run_float_arith w .mul t .f64 _ _ _ hm
  have o3 : ∀ t w, (binOp .sub t (.float .f64 (Fl.F a)) (.float .f64 (Fl.F (10007 * (a / 10007))))).run Try.prog w = .ok (.float .f64 (Fl.F (a % 10007))) w := fun t w => run_float_arith w .sub t .f64 _ _ _ hs
  have o4 : ∀ w, (convert 73 3 (.float .f64 (Fl.F (a % 10007)))).run Try.prog w = .ok (.int .i64 (a % 10007)) w := fun w => run_convert_float_int w 73 3 .f64 .i64 _ _ (by rw [Try.underlying73]; rfl) Try.underlying3 hk
  clear hb hq hf b1 b2 b3 e4 b4 hm hs hk
  generalize Fl.F (10007 * (a / 10007)) = x at *
  generalize Fl.F (a / 10007) = y at *
  generalize Fl.F (a % 10007) = z at *
  generalize a % 10007 = r at *
  generalize Fl.F a = f at *
  go_enter Try.func45, Try.ntmps45
  go_wp2_with (rw [o1])
  refine (hfl _).mono ?_
  rintro e w1 ⟨rfl, rfl⟩
  go_wp2_with (first | rw [o2] | rw [o3] | rw [o4])
  go_ret
  exact ⟨rfl, rfl⟩

/-- An element as a value. -/
abbrev el (a b : Int) : Value := .agg #[.int .i64 a, .int .i64 b]

theorem pnumber_any (a b : Int) (w : World) :
    Calls Try.prog 42 #[el a b] w fun e w' => e = .returned (.complex .f64 (Fl.F a) (Fl.F b)) ∧ w' = w.alloc (.cells #[.int .i64 a, .int .i64 b] 24) := by
  go_enter Try.func42, Try.ntmps42
  go_wp2
  go_ret
  exact ⟨rfl, rfl⟩

def Valid (a b : Int) : Prop := 0 ≤ a ∧ a < 10007 ∧ 0 ≤ b ∧ b < 10007
theorem pmay_in (a b : Int) (h : Valid a b) (w : World) :
    Calls Try.prog 28 #[el a b] w fun e w' => e = .returned (.bool true) ∧ w' = w.alloc (.cells #[.int .i64 a, .int .i64 b] 24) := by
  obtain ⟨h1, h2, h3, h4⟩ := h
  have t1 : decide (0 ≤ a) = true := by simpa using h1
  have t2 : decide (a < 10007) = true := by simpa using h2
  have t3 : decide (0 ≤ b) = true := by simpa using h3
  have t4 : decide (b < 10007) = true := by simpa using h4
  clear h1 h2 h3 h4
  go_enter Try.func28, Try.ntmps28
  go_wp2
  go_ret
  exact ⟨rfl, rfl⟩
theorem pmay_out (a b : Int) (h : ¬ Valid a b) (w : World) :
    Calls Try.prog 28 #[el a b] w fun e w' => e = .returned (.bool false) ∧ w' = w.alloc (.cells #[.int .i64 a, .int .i64 b] 24) := by
  by_cases h1 : 0 ≤ a
  · have t1 : decide (0 ≤ a) = true := by simpa using h1
    by_cases h2 : a < 10007
    · have t2 : decide (a < 10007) = true := by simpa using h2
      by_cases h3 : 0 ≤ b
      · have t3 : decide (0 ≤ b) = true := by simpa using h3
        have t4 : decide (b < 10007) = false := by
          have : ¬ b < 10007 := fun h4 => h ⟨h1, h2, h3, h4⟩
          simpa using this
        clear h h1 h2 h3
        go_enter Try.func28, Try.ntmps28
        go_wp2
        go_ret
        exact ⟨rfl, rfl⟩
      · have t3 : decide (0 ≤ b) = false := by simpa using h3
        clear h h1 h2 h3
        go_enter Try.func28, Try.ntmps28
        go_wp2
        go_ret
        exact ⟨rfl, rfl⟩
    · have t2 : decide (a < 10007) = false := by simpa using h2
      clear h h1 h2
      go_enter Try.func28, Try.ntmps28
      go_wp2
      go_ret
      exact ⟨rfl, rfl⟩
  · have t1 : decide (0 ≤ a) = false := by simpa using h1
    clear h h1
    go_enter Try.func28, Try.ntmps28
    go_wp2
    go_ret
    exact ⟨rfl, rfl⟩

theorem build_el (a b : Int) (w : World) : (Instr.build 24 #[(0, .int .i64 a), (1, .int .i64 b)]).run Try.prog w = .ok (el a b) w := run_build w 24 _ _ (by kernel_rfl)
theorem build_el0 (w : World) : (Instr.build 24 #[]).run Try.prog w = .ok (el 0 0) w := run_build w 24 _ _ (by kernel_rfl)
theorem build_el1 (a : Int) (w : World) : (Instr.build 24 #[(0, .int .i64 a)]).run Try.prog w = .ok (el a 0) w := run_build w 24 _ _ (by kernel_rfl)
attribute [local go_sem] build_el build_el0 build_el1

theorem pelement_any (a b : Int) (ha : a.natAbs < 2 ^ 29) (hb : b.natAbs < 2 ^ 29) (w : World) :
    Calls Try.prog 41 #[.complex .f64 (Fl.F a) (Fl.F b)] w fun e w' => e = .returned (el (a % 10007) (b % 10007)) ∧ w' = w.alloc (.cells #[.int .i64 (a % 10007), .int .i64 (b % 10007)] 24) := by
  have hma := fun W => pmodulo_any a ha W
  have hmb := fun W => pmodulo_any b hb W
  generalize a % 10007 = x at *
  generalize b % 10007 = y at *
  generalize Fl.F a = f at *
  generalize Fl.F b = g at *
  clear ha hb
  go_enter Try.func41, Try.ntmps41
  go_wp2_with fail
  refine (hma _).mono ?_
  rintro e w1 ⟨rfl, rfl⟩
  go_wp2_with fail
  refine (hmb _).mono ?_
  rintro e w1 ⟨rfl, rfl⟩
  go_wp2
  refine bodyPost_ret (v := el x y) ?_ rfl ⟨rfl, rfl⟩
  simp [results, Try.f41, go_sem]

/-- What a closure of 'combine' does. -/
def Does (k : Nat) (a b c d x y : Int) : Prop := ∀ w, Calls Try.prog k #[.complex .f64 (Fl.F a) (Fl.F b), .complex .f64 (Fl.F c) (Fl.F d)] w fun e w' => e = .returned (.complex .f64 (Fl.F x) (Fl.F y)) ∧ w' = w

theorem does_add (a b c d : Int) (h1 : Valid a b) (h2 : Valid c d) : Does 37 a b c d (a + c) (b + d) := by
  intro w
  obtain ⟨a1, a2, b1, b2⟩ := h1
  obtain ⟨c1, c2, d1, d2⟩ := h2
  have e53 : (20014 : Nat) ≤ 2 ^ 53 := by decide
  have k1 := Fl.f64_add (a := a) (b := c) (by omega) (by omega) (by omega)
  have k2 := Fl.f64_add (a := b) (b := d) (by omega) (by omega) (by omega)
  have hc : cSumBits .add .f64 (Fl.F a) (Fl.F b) (Fl.F c) (Fl.F d) = some (Fl.F (a + c), Fl.F (b + d)) := by simp [cSumBits, k1, k2]
  have o : ∀ t w, (binOp .add t (.complex .f64 (Fl.F a) (Fl.F b)) (.complex .f64 (Fl.F c) (Fl.F d))).run Try.prog w = .ok (.complex .f64 (Fl.F (a + c)) (Fl.F (b + d))) w := fun t w => run_complex_sum w .add (.inl rfl) t .f64 _ _ _ _ _ _ hc
  clear hc k1 k2 e53 a1 a2 b1 b2 c1 c2 d1 d2
  generalize Fl.F (a + c) = f1 at *
  generalize Fl.F (b + d) = f2 at *
  go_enter Try.func37, Try.ntmps37
  go_wp2_with (rw [o])
  go_ret
  exact ⟨rfl, rfl⟩
theorem does_sub (a b c d : Int) (h1 : Valid a b) (h2 : Valid c d) : Does 43 a b c d (a - c) (b - d) := by
  intro w
  obtain ⟨a1, a2, b1, b2⟩ := h1
  obtain ⟨c1, c2, d1, d2⟩ := h2
  have e53 : (20014 : Nat) ≤ 2 ^ 53 := by decide
  have k1 := Fl.f64_sub (a := a) (b := c) (by omega) (by omega) (by omega)
  have k2 := Fl.f64_sub (a := b) (b := d) (by omega) (by omega) (by omega)
  have hc : cSumBits .sub .f64 (Fl.F a) (Fl.F b) (Fl.F c) (Fl.F d) = some (Fl.F (a - c), Fl.F (b - d)) := by simp [cSumBits, k1, k2]
  have o : ∀ t w, (binOp .sub t (.complex .f64 (Fl.F a) (Fl.F b)) (.complex .f64 (Fl.F c) (Fl.F d))).run Try.prog w = .ok (.complex .f64 (Fl.F (a - c)) (Fl.F (b - d))) w := fun t w => run_complex_sum w .sub (.inr rfl) t .f64 _ _ _ _ _ _ hc
  clear hc k1 k2 e53 a1 a2 b1 b2 c1 c2 d1 d2
  generalize Fl.F (a - c) = f1 at *
  generalize Fl.F (b - d) = f2 at *
  go_enter Try.func43, Try.ntmps43
  go_wp2_with (rw [o])
  go_ret
  exact ⟨rfl, rfl⟩
/-- A product of two numbers below the prime. -/
theorem prod_bound {a b : Int} (a1 : 0 ≤ a) (a2 : a < 10007) (b1 : 0 ≤ b) (b2 : b < 10007) : 0 ≤ a * b ∧ a * b ≤ 100120036 := by
  refine ⟨Int.mul_nonneg a1 b1, ?_⟩
  have h1 : a * b ≤ 10006 * b := Int.mul_le_mul_of_nonneg_right (by omega) b1
  omega
theorem does_mul (a b c d : Int) (h1 : Valid a b) (h2 : Valid c d) : Does 38 a b c d (a * c - b * d) (a * d + b * c) := by
  intro w
  obtain ⟨a1, a2, b1, b2⟩ := h1
  obtain ⟨c1, c2, d1, d2⟩ := h2
  have e53 : (400480144 : Nat) ≤ 2 ^ 53 := by decide
  have p1 := prod_bound a1 a2 c1 c2
  have p2 := prod_bound b1 b2 d1 d2
  have p3 := prod_bound a1 a2 d1 d2
  have p4 := prod_bound b1 b2 c1 c2
  have k1 := Fl.f64_mul (a := a) (b := c) (by omega) (by omega) (fun _ => ⟨a1, c1⟩) (by omega)
  have k2 := Fl.f64_mul (a := b) (b := d) (by omega) (by omega) (fun _ => ⟨b1, d1⟩) (by omega)
  have k3 := Fl.f64_mul (a := a) (b := d) (by omega) (by omega) (fun _ => ⟨a1, d1⟩) (by omega)
  have k4 := Fl.f64_mul (a := b) (b := c) (by omega) (by omega) (fun _ => ⟨b1, c1⟩) (by omega)
  have k5 := Fl.f64_sub (a := a * c) (b := b * d) (by omega) (by omega) (by omega)
  have k6 := Fl.f64_add (a := a * d) (b := b * c) (by omega) (by omega) (by omega)
  have hc : cMulBits (Fl.F a) (Fl.F b) (Fl.F c) (Fl.F d) = some (Fl.F (a * c - b * d), Fl.F (a * d + b * c)) := by simp [cMulBits, k1, k2, k3, k4, k5, k6]
  have o : ∀ t w, (binOp .mul t (.complex .f64 (Fl.F a) (Fl.F b)) (.complex .f64 (Fl.F c) (Fl.F d))).run Try.prog w = .ok (.complex .f64 (Fl.F (a * c - b * d)) (Fl.F (a * d + b * c))) w := fun t w => run_complex_mul w t _ _ _ _ _ _ hc
  clear hc k1 k2 k3 k4 k5 k6 p1 p2 p3 p4 e53 a1 a2 b1 b2 c1 c2 d1 d2
  generalize Fl.F (a * c - b * d) = f1 at *
  generalize Fl.F (a * d + b * c) = f2 at *
  go_enter Try.func38, Try.ntmps38
  go_wp2_with (rw [o])
  go_ret
  exact ⟨rfl, rfl⟩
end Go.Proofs.Ytngmkokmomficaa
