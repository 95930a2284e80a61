/- Opening what came in: numbers, texts. -/
import Derived.Test.YtkkiedmcpibnaaaDoorBase
import Derived.SizedLaws
import Derived.ProofKit
import Derived.OpenShut
namespace Go.Proofs.YtkkiedmcpibnaaaDoor
open Go.RowKit Go.ChangeShapes Go.WideShapes Go.ChangeAt
open Go.ChangeMaps (open_string shut_string)
set_option maxRecDepth 100000

section
variable {H : Type} {enc : TypeId × Value → H} {W : World} {base : Nat} {t : TypeId} {v : Value} {d : DataW H} {p : List MemPlace}

theorem open_tx (ht : Tryd.prog.underlying t = some .string) (o : Value.okWide Tryd.prog W .any base t v) (h : DataW.Trod enc Tryd.prog W 0 (fun _ => true) true t v d p) :
    ∃ l : List UInt8, v = tx l ∧ d = .lit (.string l) ∧ p = [] := by
  obtain ⟨s, rfl, rfl, rfl, _⟩ := open_string ht o h
  exact ⟨s.data.toList, rfl, rfl, rfl⟩

theorem open_u64 (ht : Tryd.prog.underlying t = some (.int .u64)) (o : Value.okWide Tryd.prog W .any base t v) (h : DataW.Trod enc Tryd.prog W 0 (fun _ => true) true t v d p) :
    ∃ n : Nat, n < 18446744073709551616 ∧ v = .int .u64 n ∧ d = .lit (.int .u64 n) ∧ p = [] := by
  obtain ⟨x, rfl, rfl, rfl, wx⟩ := open_int ht o h
  have hb : 0 ≤ x ∧ x ≤ 18446744073709551615 := by simpa [Lit.wf, IntKind.min, IntKind.max, IntKind.signed, IntKind.bits] using wx
  obtain ⟨n, rfl⟩ := Int.eq_ofNat_of_zero_le hb.1
  exact ⟨n, by omega, rfl, rfl, rfl⟩

theorem open_i64 (ht : Tryd.prog.underlying t = some (.int .i64)) (o : Value.okWide Tryd.prog W .any base t v) (h : DataW.Trod enc Tryd.prog W 0 (fun _ => true) true t v d p) :
    ∃ n : Int, -9223372036854775808 ≤ n ∧ n ≤ 9223372036854775807 ∧ v = .int .i64 n ∧ d = .lit (.int .i64 n) ∧ p = [] := by
  obtain ⟨x, rfl, rfl, rfl, wx⟩ := open_int ht o h
  have hb : -9223372036854775808 ≤ x ∧ x ≤ 9223372036854775807 := by simpa [Lit.wf, IntKind.min, IntKind.max, IntKind.signed, IntKind.bits] using wx
  exact ⟨x, hb.1, hb.2, rfl, rfl, rfl⟩
end

theorem reach_nat {n : Nat} (h : n ≤ reachBytes) : n ≤ 140737488351232 := h
end Go.Proofs.YtkkiedmcpibnaaaDoor
