/- How the program holds two ballots against each other. -/
import Derived.Test.YtjngjmhhfhkbkaaVoteRight
import Derived.Test.YtjngjmhhfhkbkaaVoteRef
import Derived.Test.YtjngjmhhfhkbkaaKeep
namespace Go.Proofs.Ytjngjmhhfhkbkaa
open Go.RowKit

def cmpI (a b : Int) : Int := if a < b then -1 else if b < a then 1 else 0
/-- The first of two numbers that isn't 0. -/
def orI (a b : Int) : Int := if a ≠ 0 then a else b
def cmpB (x y : Vt.Bl) : Int := orI (cmpI x.2.1 y.2.1) (cmpI x.1 y.1)
theorem cmpB_ge (x y : Vt.Bl) : decide (0 ≤ cmpB x y) = !(Vt.ahead x y) := by
  rw [Bool.eq_iff_iff, decide_eq_true_iff, Bool.not_eq_true']
  have h : Vt.ahead x y = false ↔ ¬ (x.2.1 < y.2.1 ∨ x.2.1 = y.2.1 ∧ x.1 < y.1) := by rw [← Vt.ahead_iff]; simp
  rw [h]
  unfold cmpB orI cmpI
  split <;> (repeat' split) <;> omega
theorem cmpB_le (x y : Vt.Bl) : decide (cmpB x y ≤ 0) = !(Vt.ahead y x) := by
  rw [Bool.eq_iff_iff, decide_eq_true_iff, Bool.not_eq_true']
  have h : Vt.ahead y x = false ↔ ¬ (y.2.1 < x.2.1 ∨ y.2.1 = x.2.1 ∧ y.1 < x.1) := by rw [← Vt.ahead_iff]; simp
  rw [h]
  unfold cmpB orI cmpI
  split <;> (repeat' split) <;> omega

set_option maxHeartbeats 1000000 in
theorem pcmpI (a b : Int) (w : World) : Calls Try.prog 31 #[.int .i64 a, .int .i64 b] w fun e w' => e = .returned (.int .i64 (cmpI a b)) ∧ w' = w := by
  have hn : ∀ (x : Int) (W : World), Calls Try.prog 32 #[.int .i64 x] W fun e w' => e = .returned (.bool false) ∧ w' = W := by
    intro x W
    have hx : (x != x) = false := by simp
    go_enter Try.func32, Try.ntmps32
    go_wp2
    go_ret
    exact ⟨rfl, rfl⟩
  unfold cmpI
  by_cases h1 : a < b
  · have t1 : decide (a < b) = true := by simpa using h1
    rw [if_pos h1]
    clear h1
    go_enter Try.func31, Try.ntmps31
    go_wp2_with fail
    refine (hn _ _).mono ?_
    rintro e w1 ⟨rfl, rfl⟩
    go_wp2_with fail
    refine (hn _ _).mono ?_
    rintro e w1 ⟨rfl, rfl⟩
    go_wp2
    go_ret
    exact ⟨rfl, rfl⟩
  · have t1 : decide (a < b) = false := by simpa using h1
    rw [if_neg h1]
    by_cases h2 : b < a
    · have t2 : decide (b < a) = true := by simpa using h2
      rw [if_pos h2]
      clear h1 h2
      go_enter Try.func31, Try.ntmps31
      go_wp2_with fail
      refine (hn _ _).mono ?_
      rintro e w1 ⟨rfl, rfl⟩
      go_wp2_with fail
      refine (hn _ _).mono ?_
      rintro e w1 ⟨rfl, rfl⟩
      go_wp2
      go_ret
      exact ⟨rfl, rfl⟩
    · have t2 : decide (b < a) = false := by simpa using h2
      rw [if_neg h2]
      clear h1 h2
      go_enter Try.func31, Try.ntmps31
      go_wp2_with fail
      refine (hn _ _).mono ?_
      rintro e w1 ⟨rfl, rfl⟩
      go_wp2_with fail
      refine (hn _ _).mono ?_
      rintro e w1 ⟨rfl, rfl⟩
      go_wp2
      go_ret
      exact ⟨rfl, rfl⟩

set_option maxHeartbeats 1000000 in
theorem por (B : Nat) (a b : Int) (w : World) (h0 : w.cell? ⟨B, 0, none⟩ = some (.int .i64 a)) (h1 : w.cell? ⟨B, 1, none⟩ = some (.int .i64 b)) :
    Calls Try.prog 30 #[.slice (some ⟨B, 0, none⟩) 2 2] w fun e w' => e = .returned (.int .i64 (orI a b)) ∧ w' = w := by
  unfold orI
  by_cases ha : a = 0
  · subst ha
    rw [if_neg (by simp)]
    by_cases hb : b = 0
    · subst hb
      go_enter Try.func30, Try.ntmps30
      go_wp2_with fail
      refine wp_loop_rounds 3 ?_
      rw [rounds_succ]
      go_wp2
      rw [rounds_succ]
      go_wp2
      rw [rounds_succ]
      go_wp2
      go_ret
      exact ⟨rfl, rfl⟩
    · have t2 : (b != 0) = true := by simpa using hb
      clear hb
      go_enter Try.func30, Try.ntmps30
      go_wp2_with fail
      refine wp_loop_rounds 2 ?_
      rw [rounds_succ]
      go_wp2
      rw [rounds_succ]
      go_wp2
      go_ret
      exact ⟨rfl, rfl⟩
  · have t1 : (a != 0) = true := by simpa using ha
    rw [if_pos ha]
    clear ha
    go_enter Try.func30, Try.ntmps30
    go_wp2_with fail
    refine wp_loop_rounds 1 ?_
    rw [rounds_succ]
    go_wp2
    go_ret
    exact ⟨rfl, rfl⟩


/-- A ballot as a value. -/
abbrev bval (s : Vt.Bl) : Value := .agg #[iv s.1, iv s.2.1, tx s.2.2]
set_option maxHeartbeats 2000000 in
theorem pcompare (x y : Vt.Bl) (w : World) : Calls Try.prog 27 #[bval x, bval y] w fun e w' => e = .returned (.int .i64 (cmpB x y)) ∧ Below w.heap.size w w' := by
  have e : cmpB x y = orI (cmpI x.2.1 y.2.1) (cmpI x.1 y.1) := rfl
  rw [e]
  have h1 := Lib.hid fun W => same_below (pcmpI x.2.1 y.2.1 W)
  have h2 := Lib.hid fun W => same_below (pcmpI x.1 y.1 W)
  generalize cmpI x.2.1 y.2.1 = a at *
  generalize cmpI x.1 y.1 = b at *
  clear e
  go_enter Try.func27, Try.ntmps27
  go_wp2_with fail
  have hk := Lib.hid (show ∀ a b : World, (fun w' : World => w'.cell? ⟨w.heap.size, 0, none⟩ = some (iv x.1) ∧ w'.cell? ⟨w.heap.size, 1, none⟩ = some (iv x.2.1) ∧ w'.cell? ⟨w.heap.size + 1, 0, none⟩ = some (iv y.1) ∧ w'.cell? ⟨w.heap.size + 1, 1, none⟩ = some (iv y.2.1) ∧ Below w.heap.size w w') a → Below a.heap.size a b → (fun w' : World => w'.cell? ⟨w.heap.size, 0, none⟩ = some (iv x.1) ∧ w'.cell? ⟨w.heap.size, 1, none⟩ = some (iv x.2.1) ∧ w'.cell? ⟨w.heap.size + 1, 0, none⟩ = some (iv y.1) ∧ w'.cell? ⟨w.heap.size + 1, 1, none⟩ = some (iv y.2.1) ∧ Below w.heap.size w w') b from fun a b ⟨k0, k1, k2, k3, kb⟩ h => ⟨below_cell h k0, below_cell h k1, below_cell h k2, below_cell h k3, grow_trans kb h⟩)
  have hS : (fun w' : World => w'.cell? ⟨w.heap.size, 0, none⟩ = some (iv x.1) ∧ w'.cell? ⟨w.heap.size, 1, none⟩ = some (iv x.2.1) ∧ w'.cell? ⟨w.heap.size + 1, 0, none⟩ = some (iv y.1) ∧ w'.cell? ⟨w.heap.size + 1, 1, none⟩ = some (iv y.2.1) ∧ Below w.heap.size w w') ((w.alloc (.cells #[iv x.1, iv x.2.1, tx x.2.2] 24)).alloc (.cells #[iv y.1, iv y.2.1, tx y.2.2] 24)) := ⟨by simp, by simp, by simp, by simp, ((Below.refl _ w).alloc (Nat.le_refl _) _).alloc (by simp) _⟩
  have k := hS
  obtain ⟨k0, k1, k2, k3, kb⟩ := k
  go_region_held3 (fun w' : World => w'.cell? ⟨w.heap.size, 0, none⟩ = some (iv x.1) ∧ w'.cell? ⟨w.heap.size, 1, none⟩ = some (iv x.2.1) ∧ w'.cell? ⟨w.heap.size + 1, 0, none⟩ = some (iv y.1) ∧ w'.cell? ⟨w.heap.size + 1, 1, none⟩ = some (iv y.2.1) ∧ Below w.heap.size w w')
    (first | assumption | exact hk.out _ _ hS (Below.drew (Below.refl _ _)) | exact hk.out _ _ (by assumption) ((Below.refl _ _).alloc (Nat.le_refl _) _))
    (first
      | (go_at_call_of 31 (iv x.2.1); refine (keepB (fun w' : World => w'.cell? ⟨w.heap.size, 0, none⟩ = some (iv x.1) ∧ w'.cell? ⟨w.heap.size, 1, none⟩ = some (iv x.2.1) ∧ w'.cell? ⟨w.heap.size + 1, 0, none⟩ = some (iv y.1) ∧ w'.cell? ⟨w.heap.size + 1, 1, none⟩ = some (iv y.2.1) ∧ Below w.heap.size w w') hk.out (h1.out _) (by assumption)).mono ?_; rintro e w1 ⟨rfl, kS⟩)
      | (go_at_call_of 31 (iv x.1); refine (keepB (fun w' : World => w'.cell? ⟨w.heap.size, 0, none⟩ = some (iv x.1) ∧ w'.cell? ⟨w.heap.size, 1, none⟩ = some (iv x.2.1) ∧ w'.cell? ⟨w.heap.size + 1, 0, none⟩ = some (iv y.1) ∧ w'.cell? ⟨w.heap.size + 1, 1, none⟩ = some (iv y.2.1) ∧ Below w.heap.size w w') hk.out (h2.out _) (by assumption)).mono ?_; rintro e w1 ⟨rfl, kS⟩)
      | (go_at_call 30; refine (keepB (fun w' : World => w'.cell? ⟨w.heap.size, 0, none⟩ = some (iv x.1) ∧ w'.cell? ⟨w.heap.size, 1, none⟩ = some (iv x.2.1) ∧ w'.cell? ⟨w.heap.size + 1, 0, none⟩ = some (iv y.1) ∧ w'.cell? ⟨w.heap.size + 1, 1, none⟩ = some (iv y.2.1) ∧ Below w.heap.size w w') hk.out (same_below (por _ a b _ (by simp) (by simp))) (by assumption)).mono ?_; rintro e w1 ⟨rfl, kS⟩))
  all_goals (go_wp2_with fail; go_ret; exact ⟨rfl, (show (fun w' : World => w'.cell? ⟨w.heap.size, 0, none⟩ = some (iv x.1) ∧ w'.cell? ⟨w.heap.size, 1, none⟩ = some (iv x.2.1) ∧ w'.cell? ⟨w.heap.size + 1, 0, none⟩ = some (iv y.1) ∧ w'.cell? ⟨w.heap.size + 1, 1, none⟩ = some (iv y.2.1) ∧ Below w.heap.size w w') _ by assumption).2.2.2.2⟩)
end Go.Proofs.Ytjngjmhhfhkbkaa
