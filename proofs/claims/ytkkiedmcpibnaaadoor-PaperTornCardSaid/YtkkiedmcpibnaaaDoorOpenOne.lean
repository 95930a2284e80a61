/- Opening a field that came in: a text, a number. -/
import Derived.Test.YtkkiedmcpibnaaaDoorOpen
import Derived.ChangeArms
namespace Go.Proofs.YtkkiedmcpibnaaaDoor
open Go.RowKit Go.ChangeShapes Go.WideShapes Go.ChangeAt

section
variable {H : Type} {enc : TypeId × Value → H} {W : World} {n : Nat} {t : TypeId} {v : Value} {y : DataW H × List MemPlace}

theorem trod_tx (ht : Tryd.prog.underlying t = some .string) (h : DataW.trod enc Tryd.prog W 0 (fun _ => true) true n t [v] = some y) : ∃ l : List UInt8, v = tx l ∧ y = (.lit (.string l), []) := by
  obtain ⟨s, hs, rfl, _⟩ := DataW.trod_string ht h
  cases hs
  exact ⟨s.data.toList, rfl, rfl⟩
theorem trod_u64 (ht : Tryd.prog.underlying t = some (.int .u64)) (h : DataW.trod enc Tryd.prog W 0 (fun _ => true) true n t [v] = some y) : ∃ m : Nat, m < 18446744073709551616 ∧ v = .int .u64 m ∧ y = (.lit (.int .u64 m), []) := by
  obtain ⟨x, hs, rfl, wx⟩ := DataW.trod_int ht h
  cases hs
  have hb : 0 ≤ x ∧ x ≤ 18446744073709551615 := by simpa [Lit.wf, IntKind.min, IntKind.max, IntKind.signed, IntKind.bits] using wx
  obtain ⟨m, rfl⟩ := Int.eq_ofNat_of_zero_le hb.1
  exact ⟨m, by omega, rfl, rfl⟩
theorem trod_i64 (ht : Tryd.prog.underlying t = some (.int .i64)) (h : DataW.trod enc Tryd.prog W 0 (fun _ => true) true n t [v] = some y) : ∃ m : Int, -9223372036854775808 ≤ m ∧ m ≤ 9223372036854775807 ∧ v = .int .i64 m ∧ y = (.lit (.int .i64 m), []) := by
  obtain ⟨x, hs, rfl, wx⟩ := DataW.trod_int ht h
  cases hs
  have hb : -9223372036854775808 ≤ x ∧ x ≤ 9223372036854775807 := by simpa [Lit.wf, IntKind.min, IntKind.max, IntKind.signed, IntKind.bits] using wx
  exact ⟨x, hb.1, hb.2, rfl, rfl⟩

end
end Go.Proofs.YtkkiedmcpibnaaaDoor
