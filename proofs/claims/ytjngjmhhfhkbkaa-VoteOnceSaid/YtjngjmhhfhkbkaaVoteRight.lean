/- Chapter 9 (vote): are votes right, as a function, and by neighbours. -/
import Derived.Test.YtjngjmhhfhkbkaaVoteMath2
namespace Vt
def right : List Bl → Bool
  | [] => true
  | [s] => may s
  | s :: t :: l => may s && ahead s t && right (t :: l)
theorem right_iff (l : List Bl) : right l = true ↔ Rt l := by
  induction l with
  | nil => exact ⟨fun _ => ⟨by simp, List.Pairwise.nil⟩, fun _ => rfl⟩
  | cons s l ih =>
    cases l with
    | nil =>
      refine ⟨fun h => ⟨fun b hb => ?_, List.pairwise_singleton _ _⟩, fun h => h.1 s (by simp)⟩
      rw [List.mem_singleton.1 hb]; exact h
    | cons t l =>
      rw [right, Bool.and_eq_true, Bool.and_eq_true, ih]
      constructor
      · rintro ⟨⟨h1, h2⟩, h3⟩
        refine ⟨fun b hb => ?_, ?_⟩
        · rcases List.mem_cons.1 hb with rfl | hb
          · exact h1
          · exact h3.1 b hb
        · rw [List.pairwise_cons]
          refine ⟨fun b hb => ?_, h3.2⟩
          rcases List.mem_cons.1 hb with rfl | hb
          · exact h2
          · exact ahead_trans _ _ _ h2 ((List.pairwise_cons.1 h3.2).1 b hb)
      · intro h
        have hp := List.pairwise_cons.1 h.2
        exact ⟨⟨h.1 s (by simp), hp.1 t (by simp)⟩, fun b hb => h.1 b (List.mem_cons_of_mem _ hb), hp.2⟩
theorem right_false_in (l : List Bl) (k : Nat) (h : k < l.length) (hr : may l[k] = false) : right l = false := by
  rw [Bool.eq_false_iff]
  intro hh
  have := ((right_iff l).mp hh).1 _ (List.getElem_mem h)
  rw [hr] at this; cases this
theorem right_false_at (l : List Bl) (j : Nat) (h : j + 1 < l.length) (hr : ahead (l[j]'(by omega)) l[j + 1] = false) : right l = false := by
  rw [Bool.eq_false_iff]
  intro hh
  have := List.pairwise_iff_getElem.1 ((right_iff l).mp hh).2 j (j + 1) (by omega) h (by omega)
  rw [hr] at this; cases this
theorem right_true (l : List Bl) (h1 : ∀ k (h : k < l.length), may l[k] = true) (h2 : ∀ j (h : j + 1 < l.length), ahead (l[j]'(by omega)) l[j + 1] = true) : right l = true := by
  induction l with
  | nil => rfl
  | cons s l ih =>
    have ih' := ih (fun k h => h1 (k + 1) (by simpa using h)) (fun j h => h2 (j + 1) (by simpa using h))
    have hs := h1 0 (by simp)
    cases l with
    | nil => exact hs
    | cons t l =>
      have ha := h2 0 (by simp)
      rw [right, Bool.and_eq_true, Bool.and_eq_true]
      exact ⟨⟨hs, ha⟩, ih'⟩
end Vt
