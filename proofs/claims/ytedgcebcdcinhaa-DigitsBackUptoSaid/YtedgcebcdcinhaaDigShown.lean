/- The document's examples, at the head of all statements of layer 1, and what the statements have in common. -/
import Derived.Test.YtedgcebcdcinhaaDigTakeNum
import Derived.Test.YtedgcebcdcinhaaGrow
namespace Go.Proofs.Ytedgcebcdcinhaa
open Go.RowKit

theorem takeNum_ex1 : Dg.takeNum [2, 0, 1] = (0, [], 3) := by decide
theorem takeNum_ex2 : Dg.takeNum [2, 1] = (0, [], 2) := by decide
theorem num_ex0 : Dg.num 0 = [0] := by decide
theorem num_ex1 : Dg.num 256 = [2, 1, 0] := by decide
theorem num_ex2 : Dg.num 2 = [1, 2] := by decide

set_option maxHeartbeats 1000000 in
theorem shown_any (w : World) : Calls Try.prog 12 #[] w fun e w' => e = .returned (.bool true) ∧ Below w.heap.size w w' := by
  have e1 := takeNum_ex1
  have e2 := takeNum_ex2
  have e3 := num_ex0
  have e4 := num_ex1
  have e5 := num_ex2
  go_enter Try.func12, Try.ntmps12
  go_wp2_with fail
  refine (takeNum_any [2, 0, 1] (by decide) _).mono ?_
  rintro e w1 ⟨rfl, n1, rfl⟩
  go_wp2_with fail
  refine (takeNum_any [2, 1] (by decide) _).mono ?_
  rintro e w1 ⟨rfl, n2, rfl⟩
  go_wp2_with fail
  refine (num_any 0 (by decide) _).mono ?_
  rintro e w3 ⟨rfl, h3⟩
  go_wp2_with fail
  refine (num_any 256 (by decide) _).mono ?_
  rintro e w4 ⟨rfl, h4⟩
  go_wp2_with fail
  refine (text_any [97, 98] (by decide) _).mono ?_
  rintro e w5 ⟨rfl, h5⟩
  go_wp2_with fail
  go_ret
  exact ⟨rfl, grow_trans (grow_trans (grow_trans (grow_draws w (n1 + n2)) h3) h4) h5⟩
end Go.Proofs.Ytedgcebcdcinhaa
