/- Whole numbers as floats, in the model's words: '+', '-', '*', the whole quotient by the prime, to a float and back. -/
import Derived.Test.YtngmkokmomficaaFl
import Derived.Laws.ComplexArith
import Derived.Laws.Cover2
namespace Fl
open Ieee Go

theorem f64_add {a b : Int} (ha : a.natAbs < 2 ^ 53) (hb : b.natAbs < 2 ^ 53) (h : (a + b).natAbs < 2 ^ 53) : floatBits .add .f64 (F a) (F b) = some (F (a + b)) := by
  obtain ⟨r, hr, hi⟩ := sum_is (is_F ha) (is_F hb).isn
  show ((dbl.read (F a)).sum (dbl.read (F b))).map dbl.write = _
  rw [hr]
  exact congrArg some (write_is hi h)
theorem f64_sub {a b : Int} (ha : a.natAbs < 2 ^ 53) (hb : b.natAbs < 2 ^ 53) (h : (a - b).natAbs < 2 ^ 53) : floatBits .sub .f64 (F a) (F b) = some (F (a - b)) := by
  obtain ⟨r, hr, hi⟩ := sum_is (is_F ha) (is_F hb).opp
  show ((dbl.read (F a)).sum (dbl.read (F b)).opposite).map dbl.write = _
  rw [hr]
  rw [← Int.sub_eq_add_neg] at hi
  exact congrArg some (write_is hi h)
theorem f64_mul {a b : Int} (ha : a.natAbs < 2 ^ 53) (hb : b.natAbs < 2 ^ 53) (hz : a * b = 0 → 0 ≤ a ∧ 0 ≤ b) (h : (a * b).natAbs < 2 ^ 53) : floatBits .mul .f64 (F a) (F b) = some (F (a * b)) := by
  obtain ⟨r, hr, hi⟩ := product_is (is_F ha) (is_F hb) hz
  show ((dbl.read (F a)).product (dbl.read (F b))).map dbl.write = _
  rw [hr]
  exact congrArg some (write_is hi h)
theorem f64_back {n : Int} (h : n.natAbs < 2 ^ 53) : floatToIntVal .f64 (F n) .i64 = some n := by
  unfold floatToIntVal
  have e : (FloatKind.f64.decode (F n)).toInt .zero = some n := toInt_is (is_F h)
  rw [e]
  have h1 : IntKind.i64.min = -9223372036854775808 := rfl
  have h2 : IntKind.i64.max = 9223372036854775807 := rfl
  rw [h1, h2]
  simp only
  rw [if_pos]
  have : (2 : Nat) ^ 53 ≤ 9223372036854775807 := by decide
  omega
theorem f64_of (n : Int) : floatOfInt .f64 n = F n := rfl
theorem F_prime : F 10007 = 4666727020758040576 := by decide
theorem F_nought : F 0 = 0 := F_zero
theorem f64_floor {a : Int} (hb : a.natAbs < 2 ^ 29) : ∃ q, floatBits .quo .f64 (F a) 4666727020758040576 = some q ∧ ∀ (P : Program) (w : World), (Extern.MathFloor.toIntegral "math.archFloor" .down #[.float .f64 q]).run P w = .ok (.float .f64 (F (a / 10007))) w := by
  obtain ⟨q, h1, ⟨s, m, e, h2⟩, h3⟩ := div_floor hb
  refine ⟨q, ?_, fun P w => ?_⟩
  · rw [← F_prime]; exact h1
  · have h4 : FloatKind.f64.decode q = .number s m e := h2
    have h5 : FloatKind.f64.encode ((Datum.number s m e).integral .down) = F (a / 10007) := by rw [← h2]; exact h3
    show Sem.run P (Extern.MathFloor.toIntegral.match_1 (motive := fun _ => Sem Value) (FloatKind.f64.decode q) _ _) w = _
    rw [h4]
    exact congrArg (fun x => Result.ok (Value.float .f64 x) w) h5
end Fl
