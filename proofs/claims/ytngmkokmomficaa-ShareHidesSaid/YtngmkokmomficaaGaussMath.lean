/- Elements as pairs of numbers: the plain functions. No program is named here. -/
namespace Ga

abbrev E := Int × Int
def ok (x : E) : Bool := decide (0 ≤ x.1 ∧ x.1 < 10007 ∧ 0 ≤ x.2 ∧ x.2 < 10007)
def add (x y : E) : E := if ok x && ok y then ((x.1 + y.1) % 10007, (x.2 + y.2) % 10007) else (0, 0)
def sub (x y : E) : E := if ok x && ok y then ((x.1 - y.1) % 10007, (x.2 - y.2) % 10007) else (0, 0)
def mul (x y : E) : E := if ok x && ok y then ((x.1 * y.1 - x.2 * y.2) % 10007, (x.1 * y.2 + x.2 * y.1) % 10007) else (0, 0)
def norm (x : E) : Int := if ok x then (x.1 * x.1 + x.2 * x.2) % 10007 else 0
/-- By squares, from the lowest binary digit on. -/
def powL : Nat → E → E → Nat → E
  | 0, out, _, _ => out
  | f + 1, out, x, n => if n = 0 then out else powL f (if n % 2 = 1 then mul out x else out) (mul x x) (n / 2)
def pow (x : E) (n : Nat) : E := if ok x then powL 64 (1, 0) x n else (0, 0)
def ofN (v : Nat) : E := ((v % 10007 : Nat), (v / 10007 % 10007 : Nat))
def wholeL : Nat → Int → Int → Nat → Int
  | 0, out, _, _ => out
  | f + 1, out, v, n => if n = 0 then out else wholeL f (if n % 2 = 1 then out * v % 10007 else out) (v * v % 10007) (n / 2)
def whole (v : Int) : Int := wholeL 64 1 v 10005
/-- What the program answers. -/
def inv (x : E) : E × Int := if ok x && decide (x ≠ (0, 0)) then (pow x 100140047, 0) else ((0, 0), 1)
/-- What the document answers. -/
def invR (x : E) : E × Int := if ok x && decide (x ≠ (0, 0)) then ((x.1 * whole (norm x) % 10007, (10007 - x.2) % 10007 * whole (norm x) % 10007), 0) else ((0, 0), 1)

theorem ok_iff (x : E) : ok x = true ↔ 0 ≤ x.1 ∧ x.1 < 10007 ∧ 0 ≤ x.2 ∧ x.2 < 10007 := by simp [ok]
theorem ok_mod (a b : Int) : ok (a % 10007, b % 10007) = true := by
  rw [ok_iff]
  simp only
  omega
theorem ok_zero : ok (0, 0) = true := by decide
theorem ok_add (x y : E) : ok (add x y) = true := by
  unfold add; split
  · exact ok_mod _ _
  · exact ok_zero
theorem ok_sub (x y : E) : ok (sub x y) = true := by
  unfold sub; split
  · exact ok_mod _ _
  · exact ok_zero
theorem ok_mul (x y : E) : ok (mul x y) = true := by
  unfold mul; split
  · exact ok_mod _ _
  · exact ok_zero
theorem ok_powL : ∀ (f : Nat) (out x : E) (n : Nat), ok out = true → ok (powL f out x n) = true := by
  intro f
  induction f with
  | zero => intro out x n h; exact h
  | succ f ih =>
    intro out x n h
    rw [powL]
    split
    · exact h
    · apply ih
      split
      · exact ok_mul _ _
      · exact h
theorem ok_pow (x : E) (n : Nat) : ok (pow x n) = true := by
  unfold pow; split
  · exact ok_powL _ _ _ _ (by decide)
  · exact ok_zero
theorem ok_ofN (v : Nat) : ok (ofN v) = true := by
  rw [ok_iff]
  simp only [ofN]
  omega
theorem add_ok {x y : E} (hx : ok x = true) (hy : ok y = true) : add x y = ((x.1 + y.1) % 10007, (x.2 + y.2) % 10007) := by simp [add, hx, hy]
theorem sub_ok {x y : E} (hx : ok x = true) (hy : ok y = true) : sub x y = ((x.1 - y.1) % 10007, (x.2 - y.2) % 10007) := by simp [sub, hx, hy]
theorem mul_ok {x y : E} (hx : ok x = true) (hy : ok y = true) : mul x y = ((x.1 * y.1 - x.2 * y.2) % 10007, (x.1 * y.2 + x.2 * y.1) % 10007) := by simp [mul, hx, hy]
end Ga
