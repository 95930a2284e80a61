/- Opening what came in: an element. -/
import Derived.Test.YtngmkokmomficaaOpenOne
import Derived.Test.YtngmkokmomficaaGaussGo
import Derived.Lib.SmallJoins
namespace Go.Proofs.Ytngmkokmomficaa
open Go.RowKit Go.ChangeShapes Go.WideShapes Go.ChangeAt

theorem open_elem {H : Type} {enc : TypeId × Value → H} {W : World} {base : Nat} {v : Value} {d : DataW H} {p : List MemPlace} (o : Value.okWide Try.prog W .any base 24 v) (h : DataW.Trod enc Try.prog W 0 (fun _ => true) true 24 v d p) :
    ∃ a b : Int, v = el a b := by
  obtain ⟨a0, a1, y0, y1, m, rfl, rfl, _, e0, e1⟩ := Joins.open_agg2 Try.underlying24 (by kernel_rfl) (by kernel_rfl) o h
  obtain ⟨a, _, _, rfl, _⟩ := trod_i64 Try.underlying3 e0
  obtain ⟨b, _, _, rfl, _⟩ := trod_i64 Try.underlying3 e1
  exact ⟨a, b, rfl⟩
end Go.Proofs.Ytngmkokmomficaa
