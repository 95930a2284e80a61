/- The contracts of the document's answer of layer 6: Ahead, Has. -/
import Derived.Test.YtpodccgaigkalaaBookMath
import Derived.Test.YtpodccgaigkalaaDigLess
import Derived.Deep.QuietTactic
import Derived.BigQuiet
namespace Go.Proofs.Ytpodccgaigkalaa
open Go.RowKit

/-- Seals, as the cells of a slice. -/
def seals (l : List Bk.Sl) : List Value := l.flatMap fun s => [iv s.1, tx s.2]
theorem seals_len (l : List Bk.Sl) : (seals l).length = l.length * 2 := by
  induction l with
  | nil => rfl
  | cons s l ih =>
    have : seals (s :: l) = iv s.1 :: tx s.2 :: seals l := rfl
    rw [this, List.length_cons, List.length_cons, ih, List.length_cons]; omega
theorem seals_at (l : List Bk.Sl) (k : Nat) (h : k < l.length) : (seals l)[k * 2]? = some (iv l[k].1) ∧ (seals l)[k * 2 + 1]? = some (tx l[k].2) := by
  induction l generalizing k with
  | nil => simp at h
  | cons s l ih =>
    have e : seals (s :: l) = iv s.1 :: tx s.2 :: seals l := rfl
    cases k with
    | zero => simp [e]
    | succ k =>
      have := ih k (by simpa using h)
      rw [e, show (k + 1) * 2 = k * 2 + 2 by omega, show k * 2 + 2 + 1 = (k * 2 + 1) + 2 by omega]
      simpa using this
/-- A book, opened. -/
theorem flat_seals {w w' : World} {s : Value} {l : List Bk.Sl} (h : FlatAt w s 2 (seals l)) (hb : Below w.heap.size w w') :
    (l = [] ∧ ∃ a cap, s = .slice a 0 cap) ∨ (0 < l.length ∧ ∃ b off cap, s = .slice (some ⟨b, off, none⟩) l.length cap ∧ ∀ k (hk : k < l.length), w'.cell? ⟨b, off + k * 2, none⟩ = some (iv l[k].1) ∧ w'.cell? ⟨b, off + k * 2 + 1, none⟩ = some (tx l[k].2)) := by
  by_cases h0 : l.length = 0
  · have e : l = [] := List.length_eq_zero_iff.1 h0
    obtain ⟨a, cap, rfl⟩ := h.len (n := l.length) (seals_len l) (by omega)
    subst e
    exact .inl ⟨rfl, _, _, rfl⟩
  · obtain ⟨b, off, cap, rfl, hc⟩ := h.at (n := l.length) (seals_len l) (by omega) (by omega)
    refine .inr ⟨by omega, b, off, cap, rfl, fun k hk => ?_⟩
    obtain ⟨h1, h2⟩ := seals_at l k hk
    have l1 : k * 2 < (seals l).length := by rw [seals_len]; omega
    have l2 : k * 2 + 1 < (seals l).length := by rw [seals_len]; omega
    rw [List.getElem?_eq_getElem l1] at h1
    rw [List.getElem?_eq_getElem l2] at h2
    injection h1 with h1
    injection h2 with h2
    exact ⟨by rw [below_cell hb (hc (k * 2) l1), h1], by rw [Nat.add_assoc, below_cell hb (hc (k * 2 + 1) l2), h2]⟩

theorem less_eq {a b : List UInt8} {r : Bool} (h : Dg.less a b = r) (ha : a.length ≤ 140737488351232) (hb : b.length ≤ 140737488351232) (w : World) :
    Calls Try.prog 36 #[tx a, tx b] w fun e w' => e = .returned (.bool r) ∧ ∃ n, w' = w.drewN n := by subst h; exact less_any a b ha hb w

set_option maxHeartbeats 1000000 in
theorem rahead_any (a b : Bk.Sl) (la : a.2.length ≤ 140737488351232) (lb : b.2.length ≤ 140737488351232) (w : World) :
    Calls Try.prog 28 #[.agg #[iv a.1, tx a.2], .agg #[iv b.1, tx b.2]] w fun e w' => e = .returned (.bool (Bk.ahead a b)) ∧ Below w.heap.size w w' := by
  obtain ⟨x, s⟩ := a
  obtain ⟨y, t⟩ := b
  simp only [iv] at la lb ⊢
  obtain ⟨r, hr⟩ : ∃ r, Dg.less s t = r := ⟨_, rfl⟩
  have R := Lib.hid hr
  have hA : Bk.ahead (x, s) (y, t) = (decide (x < y) || decide (x = y) && r) := by rw [Bk.ahead, hr]
  rw [hA]
  clear hr hA
  have grown : ∀ n, Below w.heap.size w (((w.alloc (Obj.cells #[Value.int IntKind.i64 x, tx s] 24)).alloc (Obj.cells #[Value.int IntKind.i64 y, tx t] 24)).drewN n) := fun n =>
    below_drewN (grow_trans ((Below.refl _ _).alloc (Nat.le_refl _) _) ((Below.refl _ _).alloc (Nat.le_refl _) _)) n
  have GR := Lib.hid grown
  clear grown
  rcases Int.lt_trichotomy x y with hlt | heq | hgt
  · have h1 : decide (x < y) = true := decide_eq_true hlt
    rw [h1, Bool.true_or]
    clear hlt
    go_enter Try.func28, Try.ntmps28
    go_wp2_with fail
    refine (less_eq R.out la lb _).mono ?_
    rintro e w1 ⟨rfl, n, rfl⟩
    go_wp2
    go_ret
    exact ⟨rfl, GR.out _⟩
  · subst heq
    rw [decide_eq_false (Int.lt_irrefl x), decide_eq_true (rfl : x = x), Bool.false_or, Bool.true_and]
    cases r with
    | false =>
      go_enter Try.func28, Try.ntmps28
      go_wp2_with fail
      refine (less_eq R.out la lb _).mono ?_
      rintro e w1 ⟨rfl, n, rfl⟩
      go_wp2
      go_ret
      exact ⟨rfl, GR.out _⟩
    | true =>
      go_enter Try.func28, Try.ntmps28
      go_wp2_with fail
      refine (less_eq R.out la lb _).mono ?_
      rintro e w1 ⟨rfl, n, rfl⟩
      go_wp2
      go_ret
      exact ⟨rfl, GR.out _⟩
  · have h1 : decide (x < y) = false := decide_eq_false (by omega)
    have h2 : decide (x = y) = false := decide_eq_false (by omega)
    have h3 : (x == y) = false := by rw [beq_eq_false_iff_ne]; omega
    rw [h1, h2, Bool.false_or, Bool.false_and]
    clear hgt
    go_enter Try.func28, Try.ntmps28
    go_wp2_with fail
    refine (less_eq R.out la lb _).mono ?_
    rintro e w1 ⟨rfl, n, rfl⟩
    go_wp2
    go_ret
    exact ⟨rfl, GR.out _⟩
end Go.Proofs.Ytpodccgaigkalaa
