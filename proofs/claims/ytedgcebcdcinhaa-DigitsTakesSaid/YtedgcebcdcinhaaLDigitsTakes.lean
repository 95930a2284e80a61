/- DigitsTakes: the walk. -/
import Derived.Test.YtedgcebcdcinhaaDigShown
import Derived.Test.YtedgcebcdcinhaaDigTakeText
import Derived.Test.YtedgcebcdcinhaaOpen
namespace Go.Proofs.Ytedgcebcdcinhaa
open Go.RowKit Go.ChangeShapes Go.WideShapes Go.ChangeAt

set_option maxHeartbeats 1000000 in
theorem digitsTakes_core (l : List UInt8) (hl : l.length ≤ 140737488351232) (W : World) :
    Calls Try.prog 4 #[tx l] W fun e W' => e = .returned (.bool true) ∧ Below W.heap.size W W' := by
  obtain ⟨n, r, x, ht⟩ : ∃ n r x, Dg.takeNum l = (n, r, x) := ⟨_, _, _, rfl⟩
  have HT := Lib.hid ht
  clear ht
  go_enter Try.func4, Try.ntmps4
  go_wp2_with fail
  refine (shown_any _).mono ?_
  rintro e w1 ⟨rfl, h1⟩
  go_wp2_with fail
  refine (takeNum_eq HT.out hl _).mono ?_
  rintro e w2 ⟨rfl, k, rfl⟩
  go_wp2_with fail
  refine (rtakeNum_eq HT.out hl _).mono ?_
  rintro e w3 ⟨rfl, k2, rfl⟩
  go_wp2_with fail
  go_ret
  exact ⟨rfl, grow_trans h1 (grow_draws _ _)⟩

theorem digitsTakes_walk {H : Type} (enc : TypeId × Value → H) (W : World) (base : Nat) (v0 : Value) (d0 : DataW H) (p0 : List MemPlace)
    (h0 : DataW.Trod enc Try.prog W 0 (fun _ => true) true 9 v0 d0 p0) (o0 : Value.okWide Try.prog W .any base 9 v0)
    (hsz : (DataW.weightsEach Try.prog [9] [d0]).all (· ≤ reachBytes) = true) :
    Calls Try.prog 4 #[v0] W fun e W' => e = .returned (.bool true) ∧ Below W.heap.size W W' := by
  obtain ⟨l, rfl, rfl, rfl⟩ := open_tx Try.underlying9 o0 h0
  exact digitsTakes_core l (sized_string hsz (j := 0) rfl rfl) W
end Go.Proofs.Ytedgcebcdcinhaa
