/- Small lemmas on worlds that only grow. -/
import Derived.WalkKit
import Derived.WalkSmall
namespace Go.Proofs.Ytedgcebcdcinhaa
open Go.RowKit

theorem grow_trans {a b c : World} (h : Below a.heap.size a b) (k : Below b.heap.size b c) : Below a.heap.size a c := h.trans (k.mono h.size)
theorem grow_draws (a : World) (n : Nat) : Below a.heap.size a (a.drewN n) := below_drewN (Below.refl _ _) n
theorem drewN_ex {w W : World} (h : ∃ n, W = w.drewN n) (k : Nat) : ∃ n, W.drewN k = w.drewN n := by obtain ⟨n, rfl⟩ := h; exact ⟨_, by rw [World.drewN_drewN]⟩
end Go.Proofs.Ytedgcebcdcinhaa
