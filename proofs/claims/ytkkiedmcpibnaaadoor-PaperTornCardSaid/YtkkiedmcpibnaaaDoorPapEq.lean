/- Papers compared; opened. -/
import Derived.Test.YtkkiedmcpibnaaaDoorPapShown
import Derived.Test.YtkkiedmcpibnaaaDoorOpenOne
import Derived.Laws.StructEq
import Derived.Lib.SmallJoins
namespace Go.Proofs.YtkkiedmcpibnaaaDoor
open Go.RowKit Go.ChangeShapes Go.WideShapes Go.ChangeAt
theorem eq_pap (a b : List UInt8) (f : Int) (o : Bool) (w : World) : (Op.equalIn 10000 34 (.agg #[tx a, tx b, .int .i64 f, .bool o]) (.agg #[tx a, tx b, .int .i64 f, .bool o])).run Tryd.prog w = .ok true w := by
  have hS : Tryd.prog.underlying 34 = some (.struct (Tryd.prog.fieldsOf 34)) := by kernel_rfl
  have hp : Tryd.prog.stoodInHeld 34 = false := by kernel_rfl
  have u1 := Tryd.underlying3
  have u2 := Tryd.underlying9
  have u3 := Tryd.underlying4
  rw [show (10000 : Nat) = 9999 + 1 from rfl, run_equalIn_agg w 9999 34 _ _ hS hp]
  simp only [Program.fieldsOf, Tryd.underlying34]
  go_simp
theorem guard_pap (op : BinOp) (o1 o2 : Operand) (xs ys : Array Value) (w : World) : (eqGuard op 34 o1 o2 (.agg xs) (.agg ys)).run Tryd.prog w = .ok () w := run_eqGuard_agg w op 34 o1 o2 xs ys (by kernel_rfl)
section
variable {H : Type} {enc : TypeId × Value → H} {W : World} {n : Nat} {v : Value} {y : DataW H × List MemPlace}
theorem trod_bool (h : DataW.trod enc Tryd.prog W 0 (fun _ => true) true n 4 [v] = some y) : ∃ b : Bool, v = .bool b ∧ y = (.lit (.bool b), []) := by
  obtain ⟨b, hb, rfl⟩ := DataW.trod_bool Tryd.underlying4 h
  cases hb
  exact ⟨b, rfl, rfl⟩
end
end Go.Proofs.YtkkiedmcpibnaaaDoor
