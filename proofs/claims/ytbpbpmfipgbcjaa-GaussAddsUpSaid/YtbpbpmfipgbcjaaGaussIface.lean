/- What the statements' walks want of package gauss: each call's answer; the document's examples. -/
import Derived.Test.YtbpbpmfipgbcjaaGaussRef3
import Derived.Deep.RegionHeld3
namespace Go.Proofs.Ytbpbpmfipgbcjaa
open Go.RowKit

attribute [local go_sem] build_el build_el0 build_el1 eq_el guard_el

theorem build_el2 (b : Int) (w : World) : (Instr.build 23 #[(1, .int .i64 b)]).run Try.prog w = .ok (el 0 b) w := run_build w 23 _ _ (by kernel_rfl)
attribute [local go_sem] build_el2

theorem s_may {x : Ga.E} {b : Bool} (h : Ga.ok x = b) (w : World) :
    Calls Try.prog 14 #[elv x] w fun e w' => e = .returned (.bool b) ∧ Below w.heap.size w w' :=
  (pmay_ok h w).mono fun e w' hh => ⟨hh.1, by rw [hh.2]; exact (Below.refl _ _).alloc (Nat.le_refl _) _⟩
theorem r_may {x : Ga.E} {b : Bool} (h : Ga.ok x = b) (w : World) :
    Calls Try.prog 15 #[elv x] w fun e w' => e = .returned (.bool b) ∧ Below w.heap.size w w' :=
  (rmay_ok h w).mono fun e w' hh => ⟨hh.1, by rw [hh.2]; exact (Below.refl _ _).alloc (Nat.le_refl _) _⟩
theorem s_norm {x : Ga.E} {z : Int} (h : Ga.norm x = z) (w : World) :
    Calls Try.prog 22 #[elv x] w fun e w' => e = .returned (.int .i64 z) ∧ Below w.heap.size w w' := by subst h; exact pnorm_any x w
theorem s_pow {x z : Ga.E} {n : Nat} (h : Ga.pow x n = z) (hn : n < 18446744073709551616) (w : World) :
    Calls Try.prog 24 #[elv x, .int .u64 n] w fun e w' => e = .returned (elv z) ∧ Below w.heap.size w w' := by subst h; exact ppow_any x n hn w
theorem s_of {v : Nat} {z : Ga.E} (h : Ga.ofN v = z) (hv : v < 18446744073709551616) (w : World) :
    Calls Try.prog 26 #[.int .u64 v] w fun e w' => e = .returned (elv z) ∧ Below w.heap.size w w' := by subst h; exact pof_any v hv w
theorem r_of {v : Nat} {z : Ga.E} (h : Ga.ofN v = z) (hv : v < 18446744073709551616) (w : World) :
    Calls Try.prog 27 #[.int .u64 v] w fun e w' => e = .returned (elv z) ∧ Below w.heap.size w w' := by subst h; exact rof_any v hv w
theorem s_inv {x z : Ga.E} {c : Int} (h : Ga.inv x = (z, c)) (w : World) :
    Calls Try.prog 28 #[elv x] w fun e w' => e = .returned (.tuple #[elv z, .int .i64 c]) ∧ Below w.heap.size w w' :=
  (pinv_any x w).mono fun e w' hh => by rw [h] at hh; exact hh

/-- Are two elements the same? -/
def eqE (a b c d : Int) : Bool := a == c && b == d
theorem eqE_self (a b : Int) : eqE a b a b = true := by simp [eqE]
theorem eqE_ne {x y : Ga.E} (h : x ≠ y) : eqE x.1 x.2 y.1 y.2 = false := by
  unfold eqE
  rw [Bool.and_eq_false_iff, beq_eq_false_iff_ne, beq_eq_false_iff_ne]
  by_cases h1 : x.1 = y.1
  · exact .inr fun h2 => h (Prod.ext h1 h2)
  · exact .inl h1
theorem eqE_eq {x y : Ga.E} (h : x = y) : eqE x.1 x.2 y.1 y.2 = true := by subst h; exact eqE_self _ _
theorem eq_elE (a b c d : Int) (w : World) : (Op.equalIn 10000 23 (el a b) (el c d)).run Try.prog w = .ok (eqE a b c d) w := eq_el a b c d w

/-- A call keeps whatever abides growth. -/
theorem keepS {F : Nat} {args : Array Value} {r : Value} {w : World} (S : World → Prop) (hk : ∀ a b, S a → Below a.heap.size a b → S b) (hc : Calls Try.prog F args w fun e w' => e = .returned r ∧ Below w.heap.size w w') (h : S w) :
    Calls Try.prog F args w fun e w' => e = .returned r ∧ S w' :=
  hc.mono fun _ _ ⟨he, hb⟩ => ⟨he, hk _ _ h hb⟩

theorem ga_ex1 : Ga.mul (0, 1) (0, 1) = (10006, 0) := by decide
theorem ga_ex2 : Ga.inv (2, 0) = ((5004, 0), 0) := by decide +kernel
theorem ga_ex3 : Ga.ofN 10008 = (1, 1) := by decide

set_option maxHeartbeats 1000000 in
theorem gaShown_any (w : World) : Calls Try.prog 13 #[] w fun e w' => e = .returned (.bool true) ∧ Below w.heap.size w w' := by
  go_enter Try.func13, Try.ntmps13
  go_wp2_with fail
  refine (pmul_eq ga_ex1 _).mono ?_
  rintro e w1 ⟨rfl, h1⟩
  have g1 : Below w.heap.size w w1 := ((Below.refl _ _).alloc (Nat.le_refl _) _).trans (h1.mono (by simp))
  clear h1
  go_wp2_with fail
  refine (s_inv ga_ex2 _).mono ?_
  rintro e w2 ⟨rfl, h2⟩
  have x1 := (EBox.new w1 10006 0).kept h2
  have g2 : Below w.heap.size w w2 := (g1.alloc g1.size _).trans (h2.mono (by have := g1.size; simp; omega))
  have g3 := g2.alloc g2.size (.cells #[.int .i64 5004, .int .i64 0] 23)
  have x2 := x1.alloc (.cells #[.int .i64 5004, .int .i64 0] 23)
  obtain ⟨c0, c1, _, _⟩ := x2.facts
  obtain ⟨d0, d1, _, _⟩ := (EBox.new w2 5004 0).facts
  clear h2 x1
  go_wp2_with fail
  refine (s_of ga_ex3 (by decide) _).mono ?_
  rintro e w3 ⟨rfl, h3⟩
  have g4 := grow_trans g3 h3
  go_wp2_with fail
  go_ret
  exact ⟨rfl, g4⟩
end Go.Proofs.Ytbpbpmfipgbcjaa
