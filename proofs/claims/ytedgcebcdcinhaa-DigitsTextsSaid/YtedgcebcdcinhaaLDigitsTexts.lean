/- DigitsTexts: the walk. -/
import Derived.Test.YtedgcebcdcinhaaDigShown
import Derived.Test.YtedgcebcdcinhaaDigTakeText
import Derived.Test.YtedgcebcdcinhaaOpen
namespace Go.Proofs.Ytedgcebcdcinhaa
open Go.RowKit Go.ChangeShapes Go.WideShapes Go.ChangeAt

set_option maxHeartbeats 1000000 in
theorem digitsTexts_core (l : List UInt8) (most : Int) (hl : l.length ≤ 140737488351232) (m1 : -9223372036854775808 ≤ most) (m2 : most ≤ 9223372036854775807) (W : World) :
    Calls Try.prog 5 #[tx l, .int .i64 most] W fun e W' => e = .returned (.bool true) ∧ Below W.heap.size W W' := by
  obtain ⟨n, r, x, ht⟩ : ∃ n r x, Dg.takeText l most = (n, r, x) := ⟨_, _, _, rfl⟩
  have HT := Lib.hid ht
  clear ht
  go_enter Try.func5, Try.ntmps5
  go_wp2_with fail
  refine (shown_any _).mono ?_
  rintro e w1 ⟨rfl, h1⟩
  go_wp2_with fail
  refine (takeText_eq HT.out hl m1 m2 _).mono ?_
  rintro e w2 ⟨rfl, k, rfl⟩
  go_wp2_with fail
  refine (rtakeText_eq HT.out hl m1 m2 _).mono ?_
  rintro e w3 ⟨rfl, k2, rfl⟩
  go_wp2_with fail
  go_ret
  exact ⟨rfl, grow_trans h1 (grow_draws _ _)⟩

theorem digitsTexts_walk {H : Type} (enc : TypeId × Value → H) (W : World) (base : Nat) (v0 v1 : Value) (d0 d1 : DataW H) (p0 p1 : List MemPlace)
    (h0 : DataW.Trod enc Try.prog W 0 (fun _ => true) true 9 v0 d0 p0) (o0 : Value.okWide Try.prog W .any base 9 v0)
    (h1 : DataW.Trod enc Try.prog W 0 (fun _ => true) true 3 v1 d1 p1) (o1 : Value.okWide Try.prog W .any base 3 v1)
    (hsz : (DataW.weightsEach Try.prog [9, 3] [d0, d1]).all (· ≤ reachBytes) = true) :
    Calls Try.prog 5 #[v0, v1] W fun e W' => e = .returned (.bool true) ∧ Below W.heap.size W W' := by
  obtain ⟨l, rfl, rfl, rfl⟩ := open_tx Try.underlying9 o0 h0
  obtain ⟨m, m1, m2, rfl, rfl, rfl⟩ := open_i64 Try.underlying3 o1 h1
  exact digitsTexts_core l m (sized_string hsz (j := 0) rfl rfl) m1 m2 W
end Go.Proofs.Ytedgcebcdcinhaa
