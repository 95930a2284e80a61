/- Ballots as cells of a slice; which may be, in both packages. -/
import Derived.Test.YtjngjmhhfhkbkaaVoteMath2
import Derived.Test.YtjngjmhhfhkbkaaBase
import Derived.Deep.QuietTactic
import Derived.BigQuiet
namespace Go.Proofs.Ytjngjmhhfhkbkaa
open Go.RowKit

/-- A ballot as a value. -/
abbrev balV (x r : Int) (d : Value) : Value := .agg #[.int .i64 x, .int .i64 r, d]
/-- Ballots, as the cells of a slice. -/
def ballots (l : List Vt.Bl) : List Value := l.flatMap fun b => [iv b.1, iv b.2.1, tx b.2.2]
theorem ballots_len (l : List Vt.Bl) : (ballots l).length = l.length * 3 := by
  induction l with
  | nil => rfl
  | cons s l ih =>
    have : ballots (s :: l) = iv s.1 :: iv s.2.1 :: tx s.2.2 :: ballots l := rfl
    rw [this, List.length_cons, List.length_cons, List.length_cons, ih, List.length_cons]; omega
theorem ballots_at (l : List Vt.Bl) (k : Nat) (h : k < l.length) : (ballots l)[k * 3]? = some (iv l[k].1) ∧ (ballots l)[k * 3 + 1]? = some (iv l[k].2.1) ∧ (ballots l)[k * 3 + 2]? = some (tx l[k].2.2) := by
  induction l generalizing k with
  | nil => simp at h
  | cons s l ih =>
    have e : ballots (s :: l) = iv s.1 :: iv s.2.1 :: tx s.2.2 :: ballots l := rfl
    cases k with
    | zero => simp [e]
    | succ k =>
      have := ih k (by simpa using h)
      rw [e, show (k + 1) * 3 = k * 3 + 3 by omega, show k * 3 + 3 + 1 = (k * 3 + 1) + 3 by omega, show k * 3 + 3 + 2 = (k * 3 + 2) + 3 by omega]
      simpa using this
/-- Votes, opened. -/
theorem flat_ballots {w w' : World} {s : Value} {l : List Vt.Bl} (h : FlatAt w s 3 (ballots l)) (hb : Below w.heap.size w w') :
    (l = [] ∧ ∃ a cap, s = .slice a 0 cap) ∨ (0 < l.length ∧ ∃ b off cap, s = .slice (some ⟨b, off, none⟩) l.length cap ∧
      ∀ k (hk : k < l.length), w'.cell? ⟨b, off + k * 3, none⟩ = some (iv l[k].1) ∧ w'.cell? ⟨b, off + k * 3 + 1, none⟩ = some (iv l[k].2.1) ∧ w'.cell? ⟨b, off + k * 3 + 2, none⟩ = some (tx l[k].2.2)) := by
  by_cases h0 : l.length = 0
  · have e : l = [] := List.length_eq_zero_iff.1 h0
    obtain ⟨a, cap, rfl⟩ := h.len (n := l.length) (ballots_len l) (by omega)
    subst e
    exact .inl ⟨rfl, _, _, rfl⟩
  · obtain ⟨b, off, cap, rfl, hc⟩ := h.at (n := l.length) (ballots_len l) (by omega) (by omega)
    refine .inr ⟨by omega, b, off, cap, rfl, fun k hk => ?_⟩
    obtain ⟨h1, h2, h3⟩ := ballots_at l k hk
    have l1 : k * 3 < (ballots l).length := by rw [ballots_len]; omega
    have l2 : k * 3 + 1 < (ballots l).length := by rw [ballots_len]; omega
    have l3 : k * 3 + 2 < (ballots l).length := by rw [ballots_len]; omega
    rw [List.getElem?_eq_getElem l1] at h1
    rw [List.getElem?_eq_getElem l2] at h2
    rw [List.getElem?_eq_getElem l3] at h3
    injection h1 with h1
    injection h2 with h2
    injection h3 with h3
    exact ⟨by rw [below_cell hb (hc (k * 3) l1), h1], by rw [Nat.add_assoc, below_cell hb (hc (k * 3 + 1) l2), h2], by rw [Nat.add_assoc, below_cell hb (hc (k * 3 + 2) l3), h3]⟩

set_option maxHeartbeats 1000000 in
theorem rvmay (x r : Int) (d : Value) (w : World) :
    Calls Try.prog 23 #[balV x r d] w fun e w' => e = .returned (.bool (decide (1 ≤ x) && decide (x ≤ 64) && decide (1 ≤ r))) ∧ Below w.heap.size w w' := by
  have hg : Below w.heap.size w (w.alloc (.cells #[.int .i64 x, .int .i64 r, d] 24)) := (Below.refl _ _).alloc (Nat.le_refl _) _
  have HG := Lib.hid hg
  clear hg
  by_cases h1 : 1 ≤ x
  · by_cases h2 : x ≤ 64
    · by_cases h3 : 1 ≤ r
      · rw [decide_eq_true h1, decide_eq_true h2, decide_eq_true h3]
        go_enter Try.func23, Try.ntmps23
        go_wp2
        go_ret
        exact ⟨rfl, HG.out⟩
      · rw [decide_eq_true h1, decide_eq_true h2, decide_eq_false h3]
        go_enter Try.func23, Try.ntmps23
        go_wp2
        go_ret
        exact ⟨rfl, HG.out⟩
    · rw [decide_eq_true h1, decide_eq_false h2]
      go_enter Try.func23, Try.ntmps23
      go_wp2
      go_ret
      exact ⟨rfl, HG.out⟩
  · rw [decide_eq_false h1]
    go_enter Try.func23, Try.ntmps23
    go_wp2
    go_ret
    exact ⟨rfl, HG.out⟩

set_option maxHeartbeats 1000000 in
theorem pvmay (x r : Int) (d : Value) (w : World) :
    Calls Try.prog 19 #[balV x r d] w fun e w' => e = .returned (.bool (decide (1 ≤ x) && decide (x ≤ 64) && decide (1 ≤ r))) ∧ Below w.heap.size w w' := by
  have hg : Below w.heap.size w (w.alloc (.cells #[.int .i64 x, .int .i64 r, d] 24)) := (Below.refl _ _).alloc (Nat.le_refl _) _
  have HG := Lib.hid hg
  clear hg
  by_cases h1 : 1 ≤ x
  · by_cases h2 : x ≤ 64
    · by_cases h3 : 1 ≤ r
      · rw [decide_eq_true h1, decide_eq_true h2, decide_eq_true h3]
        go_enter Try.func19, Try.ntmps19
        go_wp2
        go_ret
        exact ⟨rfl, HG.out⟩
      · rw [decide_eq_true h1, decide_eq_true h2, decide_eq_false h3]
        go_enter Try.func19, Try.ntmps19
        go_wp2
        go_ret
        exact ⟨rfl, HG.out⟩
    · rw [decide_eq_true h1, decide_eq_false h2]
      go_enter Try.func19, Try.ntmps19
      go_wp2
      go_ret
      exact ⟨rfl, HG.out⟩
  · rw [decide_eq_false h1]
    go_enter Try.func19, Try.ntmps19
    go_wp2
    go_ret
    exact ⟨rfl, HG.out⟩
end Go.Proofs.Ytjngjmhhfhkbkaa
