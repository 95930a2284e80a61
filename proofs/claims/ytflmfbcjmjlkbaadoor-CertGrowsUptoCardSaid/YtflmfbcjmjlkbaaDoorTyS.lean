/- Blocks that hold texts, by their type. -/
import Derived.Test.YtflmfbcjmjlkbaaDoorTxs
import Derived.RangeFuncBox
namespace Go.Proofs.YtflmfbcjmjlkbaaDoor
open Go.RowKit

/-- A block that holds texts. -/
def TyS (w : World) (k : Nat) : Prop := ∃ cur fz, w.heap[k]? = some (.cells cur 9 fz)
/-- A slice's block, if it has one, holds texts. -/
def TyV (w : World) (v : Value) : Prop := ∀ k, v.ownBlock = some k → TyS w k
theorem TyS.lt {w : World} {k : Nat} (h : TyS w k) : k < w.heap.size := by
  obtain ⟨cur, fz, h⟩ := h
  exact (Array.getElem?_eq_some_iff.1 h).1
theorem TyS.below {w w' : World} {k n : Nat} (h : TyS w k) (hb : Below n w w') (hn : k < n) : TyS w' k := by
  obtain ⟨cur, fz, h⟩ := h
  exact ⟨cur, fz, by rw [hb.block k hn]; exact h⟩
theorem TyS.set {w : World} {k : Nat} (h : TyS w k) (B i : Nat) (x : Value) : TyS (w.setCell ⟨B, i, none⟩ x) k := by
  obtain ⟨cur, fz, h⟩ := h
  by_cases e : k = B
  · subst e
    obtain ⟨hlt, hk⟩ := Array.getElem?_eq_some_iff.1 h
    refine ⟨cur.setIfInBounds i x, fz, ?_⟩
    show (w.heap.modify k _)[k]? = _
    rw [Array.getElem?_eq_getElem (by rw [Array.size_modify]; exact hlt), Array.getElem_modify_self, hk]
    rfl
  · exact ⟨cur, fz, (Below.heap_setCell w ⟨B, i, none⟩ x k e).trans h⟩
theorem TyV.nil (w : World) (n c : Nat) : TyV w (.slice none n c) := fun k h => by cases h
theorem TyV.own {w : World} {base k n : Nat} {v : Value} {xs : List Value} (h : w.ownsRow base 9 k v n xs) : TyV w v := fun g hg => by
  rcases h.2 with ⟨rfl, _⟩ | ⟨g', cap, cur, rfl, _, hh, _⟩
  · simp [Value.ownBlock] at hg
  · have : g' = g := Option.some.inj hg
    subst this
    exact ⟨cur, _, hh⟩
theorem TyV.below {w w' : World} {v : Value} (h : TyV w v) (hb : Below w.heap.size w w') : TyV w' v := fun k hk => (h k hk).below hb (h k hk).lt
theorem TyV.set {w : World} {v : Value} (h : TyV w v) (B i : Nat) (x : Value) : TyV (w.setCell ⟨B, i, none⟩ x) v := fun k hk => (h k hk).set B i x
end Go.Proofs.YtflmfbcjmjlkbaaDoor
