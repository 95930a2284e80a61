/- A slice of texts in a world. -/
import Derived.Test.YtkkiedmcpibnaaaDoorBase
import Derived.Deep.QuietTactic
import Derived.BigQuiet
namespace Go.Proofs.YtkkiedmcpibnaaaDoor
open Go.RowKit

/-- The slice v holds the texts ls in the world w. -/
def TxAt (w : World) (v : Value) (ls : List (List UInt8)) : Prop :=
  (∃ a cap, v = .slice a 0 cap ∧ ls = []) ∨ ∃ b off cap, v = .slice (some ⟨b, off, none⟩) ls.length cap ∧ ∀ i (h : i < ls.length), w.cell? ⟨b, off + i, none⟩ = some (tx ls[i])

theorem TxAt.below {w w' : World} {v : Value} {ls : List (List UInt8)} (h : TxAt w v ls) (hb : Below w.heap.size w w') : TxAt w' v ls := by
  rcases h with h | ⟨b, off, cap, hv, hc⟩
  · exact .inl h
  · exact .inr ⟨b, off, cap, hv, fun i hi => below_cell hb (hc i hi)⟩

theorem TxAt.len {w : World} {v : Value} {ls : List (List UInt8)} (h : TxAt w v ls) : ∃ a cap, v = .slice a ls.length cap := by
  rcases h with ⟨a, cap, rfl, rfl⟩ | ⟨b, off, cap, rfl, _⟩
  · exact ⟨_, _, rfl⟩
  · exact ⟨_, _, rfl⟩

/-- What a call of its own has appended. -/
theorem TxAt.own {w : World} {base n : Nat} {t : TypeId} {v : Value} {ls : List (List UInt8)} (h : w.ownsRow base t 1 v n (ls.map tx)) : TxAt w v ls := by
  obtain ⟨hl, h⟩ := h
  simp only [List.length_map, Nat.mul_one] at hl
  rcases h with ⟨rfl, rfl⟩ | ⟨g, cap, cur, rfl, _, hg, _, _, _, ht⟩
  · exact .inl ⟨_, _, rfl, List.length_eq_zero_iff.1 hl⟩
  · subst hl
    refine .inr ⟨g, 0, cap, rfl, fun i hi => ?_⟩
    have e : (cur.toList.take (ls.length * 1))[i]? = some (tx ls[i]) := by rw [ht]; simp [hi]
    rw [List.getElem?_take_of_lt (by omega)] at e
    simp only [World.cell?, hg, Nat.zero_add]
    simpa using e

end Go.Proofs.YtkkiedmcpibnaaaDoor
