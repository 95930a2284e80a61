/- Opening what came in: an element. -/
import Derived.Test.YtbpbpmfipgbcjaaOpenOne
import Derived.Test.YtbpbpmfipgbcjaaGaussGo
import Derived.Lib.SmallJoins
namespace Go.Proofs.Ytbpbpmfipgbcjaa
open Go.RowKit Go.ChangeShapes Go.WideShapes Go.ChangeAt

theorem open_elem {H : Type} {enc : TypeId × Value → H} {W : World} {base : Nat} {v : Value} {d : DataW H} {p : List MemPlace} (o : Value.okWide Try.prog W .any base 23 v) (h : DataW.Trod enc Try.prog W 0 (fun _ => true) true 23 v d p) :
    ∃ a b : Int, v = el a b := by
  obtain ⟨a0, a1, y0, y1, m, rfl, rfl, _, e0, e1⟩ := Joins.open_agg2 Try.underlying23 (by kernel_rfl) (by kernel_rfl) o h
  obtain ⟨a, _, _, rfl, _⟩ := trod_i64 Try.underlying3 e0
  obtain ⟨b, _, _, rfl, _⟩ := trod_i64 Try.underlying3 e1
  exact ⟨a, b, rfl⟩
end Go.Proofs.Ytbpbpmfipgbcjaa
