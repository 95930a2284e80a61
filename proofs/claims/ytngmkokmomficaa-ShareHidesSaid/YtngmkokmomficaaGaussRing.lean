/- Elements as pairs of numbers: sums and products, without any program. -/
import Derived.Test.YtngmkokmomficaaGaussMath
namespace Ga

theorem emod_of {A B : Int} (q : Int) (h : A - B = 10007 * q) : A % 10007 = B % 10007 := by omega
theorem emod_ex (A : Int) : ∃ k, A % 10007 = A - 10007 * k := ⟨A / 10007, by omega⟩

theorem add_comm (x y : E) : add x y = add y x := by
  unfold add
  rw [Bool.and_comm, Int.add_comm, Int.add_comm x.2]
theorem mul_comm (x y : E) : mul x y = mul y x := by
  unfold mul
  rw [Bool.and_comm, Int.mul_comm x.1 y.1, Int.mul_comm x.2 y.2, Int.mul_comm x.1 y.2, Int.mul_comm x.2 y.1, Int.add_comm]
theorem pair_mod {A B C D : Int} (p q : Int) (h1 : A - B = 10007 * p) (h2 : C - D = 10007 * q) : ((A % 10007, C % 10007) : E) = (B % 10007, D % 10007) := by
  rw [emod_of p h1, emod_of q h2]
theorem mul_assoc {x y z : E} (hx : ok x = true) (hy : ok y = true) (hz : ok z = true) : mul (mul x y) z = mul x (mul y z) := by
  rw [mul_ok (ok_mul x y) hz, mul_ok hx (ok_mul y z), mul_ok hx hy, mul_ok hy hz]
  obtain ⟨a, b⟩ := x
  obtain ⟨c, d⟩ := y
  obtain ⟨e, f⟩ := z
  obtain ⟨k1, e1⟩ := emod_ex (a * c - b * d)
  obtain ⟨k2, e2⟩ := emod_ex (a * d + b * c)
  obtain ⟨k3, e3⟩ := emod_ex (c * e - d * f)
  obtain ⟨k4, e4⟩ := emod_ex (c * f + d * e)
  simp only [e1, e2, e3, e4]
  exact pair_mod (-(k1 * e) + k2 * f + a * k3 - b * k4) (-(k1 * f) - k2 * e + a * k4 + b * k3) (by grind) (by grind)
theorem mul_add {x y z : E} (hx : ok x = true) (hy : ok y = true) (hz : ok z = true) : mul x (add y z) = add (mul x y) (mul x z) := by
  rw [mul_ok hx (ok_add y z), add_ok (ok_mul x y) (ok_mul x z), mul_ok hx hy, mul_ok hx hz, add_ok hy hz]
  obtain ⟨a, b⟩ := x
  obtain ⟨c, d⟩ := y
  obtain ⟨e, f⟩ := z
  obtain ⟨k1, e1⟩ := emod_ex (c + e)
  obtain ⟨k2, e2⟩ := emod_ex (d + f)
  obtain ⟨k3, e3⟩ := emod_ex (a * c - b * d)
  obtain ⟨k4, e4⟩ := emod_ex (a * d + b * c)
  obtain ⟨k5, e5⟩ := emod_ex (a * e - b * f)
  obtain ⟨k6, e6⟩ := emod_ex (a * f + b * e)
  simp only [e1, e2, e3, e4, e5, e6]
  exact pair_mod (-(a * k1) + b * k2 + k3 + k5) (-(a * k2) - b * k1 + k4 + k6) (by grind) (by grind)
theorem sub_add {x y : E} (hx : ok x = true) (hy : ok y = true) : sub (add x y) y = x := by
  rw [sub_ok (ok_add x y) hy, add_ok hx hy]
  obtain ⟨a, b⟩ := x
  obtain ⟨c, d⟩ := y
  obtain ⟨h1, h2, h3, h4⟩ := (ok_iff _).1 hx
  simp only at *
  exact Prod.ext (by simp only; omega) (by simp only; omega)
theorem one_mul {x : E} (hx : ok x = true) : mul x (1, 0) = x := by
  rw [mul_ok hx (by decide)]
  obtain ⟨a, b⟩ := x
  obtain ⟨h1, h2, h3, h4⟩ := (ok_iff _).1 hx
  simp only at *
  exact Prod.ext (by simp only; omega) (by simp only; omega)
theorem mul_zero {x : E} (hx : ok x = true) : mul x (0, 0) = (0, 0) := by
  rw [mul_ok hx (by decide)]
  obtain ⟨a, b⟩ := x
  simp
theorem add_zero {x : E} (hx : ok x = true) : add x (0, 0) = x := by
  rw [add_ok hx (by decide)]
  obtain ⟨a, b⟩ := x
  obtain ⟨h1, h2, h3, h4⟩ := (ok_iff _).1 hx
  simp only at *
  exact Prod.ext (by simp only; omega) (by simp only; omega)
theorem sub_self {x : E} (hx : ok x = true) : sub x x = (0, 0) := by
  rw [sub_ok hx hx]
  simp
theorem norm_mul {x y : E} (hx : ok x = true) (hy : ok y = true) : norm (mul x y) = norm x * norm y % 10007 := by
  simp only [norm, ok_mul, hx, hy, if_true]
  rw [mul_ok hx hy]
  obtain ⟨a, b⟩ := x
  obtain ⟨c, d⟩ := y
  obtain ⟨k1, e1⟩ := emod_ex (a * c - b * d)
  obtain ⟨k2, e2⟩ := emod_ex (a * d + b * c)
  obtain ⟨k3, e3⟩ := emod_ex (a * a + b * b)
  obtain ⟨k4, e4⟩ := emod_ex (c * c + d * d)
  simp only [e1, e2, e3, e4]
  exact emod_of (-(2 * (a * c - b * d) * k1) + 10007 * k1 * k1 - 2 * (a * d + b * c) * k2 + 10007 * k2 * k2 + (a * a + b * b) * k4 + k3 * (c * c + d * d) - 10007 * k3 * k4) (by grind)

/-- x to the power n, one factor after the other. -/
def npow (x : E) : Nat → E
  | 0 => (1, 0)
  | n + 1 => mul (npow x n) x
theorem ok_one : ok (1, 0) = true := by decide
theorem ok_npow (x : E) (n : Nat) : ok (npow x n) = true := by
  cases n with
  | zero => exact ok_one
  | succ n => exact ok_mul _ _
theorem npow_add {x : E} (hx : ok x = true) (m n : Nat) : npow x (m + n) = mul (npow x m) (npow x n) := by
  induction n with
  | zero => rw [Nat.add_zero, npow, one_mul (ok_npow x m)]
  | succ n ih => rw [← Nat.add_assoc, npow, ih, npow, mul_assoc (ok_npow x m) (ok_npow x n) hx]
theorem npow_one {x : E} (hx : ok x = true) : npow x 1 = x := by
  rw [npow, npow, mul_comm, one_mul hx]
theorem mul_swap {a b c d : E} (ha : ok a = true) (hb : ok b = true) (hc : ok c = true) (hd : ok d = true) : mul (mul a b) (mul c d) = mul (mul a c) (mul b d) := by
  rw [mul_assoc ha hb (ok_mul c d), ← mul_assoc hb hc hd, mul_comm b c, mul_assoc hc hb hd, ← mul_assoc ha hc (ok_mul b d)]
theorem npow_mul {x y : E} (hx : ok x = true) (hy : ok y = true) (n : Nat) : npow (mul x y) n = mul (npow x n) (npow y n) := by
  induction n with
  | zero => exact (show ((1, 0) : E) = mul (1, 0) (1, 0) by decide)
  | succ n ih => rw [npow, ih, npow, npow, mul_swap (ok_npow x n) (ok_npow y n) hx hy]
theorem npow_npow {x : E} (hx : ok x = true) (m n : Nat) : npow (npow x m) n = npow x (m * n) := by
  induction n with
  | zero => rfl
  | succ n ih => rw [npow, ih, Nat.mul_succ, npow_add hx]
theorem powL_eq : ∀ (f : Nat) (out x : E) (n : Nat), n < 2 ^ f → ok out = true → ok x = true → powL f out x n = mul out (npow x n) := by
  intro f
  induction f with
  | zero =>
    intro out x n h ho _
    obtain rfl : n = 0 := by simp at h; omega
    rw [powL, npow, one_mul ho]
  | succ f ih =>
    intro out x n h ho hx
    rw [powL]
    split
    · rename_i h0
      rw [h0, npow, one_mul ho]
    · rw [Nat.pow_succ] at h
      have hsq : npow (mul x x) (n / 2) = npow x (n / 2 + n / 2) := by rw [npow_mul hx hx, ← npow_add hx]
      split
      · rename_i h1
        rw [ih _ _ _ (by omega) (ok_mul _ _) (ok_mul _ _), hsq]
        have e : n = n / 2 + n / 2 + 1 := by omega
        conv => rhs; rw [e, npow]
        rw [mul_assoc ho hx (ok_npow _ _), mul_comm x]
      · rw [ih _ _ _ (by omega) ho (ok_mul _ _), hsq]
        have e : n = n / 2 + n / 2 := by omega
        conv => rhs; rw [e]
theorem pow_npow {x : E} (hx : ok x = true) (n : Nat) (hn : n < 18446744073709551616) : pow x n = npow x n := by
  rw [pow, if_pos hx, powL_eq 64 _ _ n hn ok_one hx, mul_comm, one_mul (ok_npow x n)]
theorem pow_add {x : E} (hx : ok x = true) (m n : Nat) (h : m + n < 18446744073709551616) : pow x (m + n) = mul (pow x m) (pow x n) := by
  rw [pow_npow hx _ h, pow_npow hx m (by omega), pow_npow hx n (by omega), npow_add hx]
end Ga
