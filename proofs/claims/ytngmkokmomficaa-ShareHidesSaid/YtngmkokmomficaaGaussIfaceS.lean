/- What the statements' walks want of package gauss: each call's answer; the document's examples. -/
import Derived.Test.YtngmkokmomficaaGaussRef3S
import Derived.Deep.RegionHeld3
namespace Go.Proofs.Ytngmkokmomficaa
open Go.RowKit

attribute [local go_sem] build_el build_el0 build_el1 eq_el guard_el

theorem build_el2 (b : Int) (w : World) : (Instr.build 24 #[(1, .int .i64 b)]).run Try.prog w = .ok (el 0 b) w := run_build w 24 _ _ (by kernel_rfl)
attribute [local go_sem] build_el2

theorem s_may {x : Ga.E} {b : Bool} (h : Ga.ok x = b) (w : World) :
    Calls Try.prog 28 #[elv x] w fun e w' => e = .returned (.bool b) ∧ Below w.heap.size w w' :=
  (pmay_ok h w).mono fun e w' hh => ⟨hh.1, by rw [hh.2]; exact (Below.refl _ _).alloc (Nat.le_refl _) _⟩
theorem r_may {x : Ga.E} {b : Bool} (h : Ga.ok x = b) (w : World) :
    Calls Try.prog 22 #[elv x] w fun e w' => e = .returned (.bool b) ∧ Below w.heap.size w w' :=
  (rmay_ok h w).mono fun e w' hh => ⟨hh.1, by rw [hh.2]; exact (Below.refl _ _).alloc (Nat.le_refl _) _⟩
theorem s_pow {x z : Ga.E} {n : Nat} (h : Ga.pow x n = z) (hn : n < 18446744073709551616) (w : World) :
    Calls Try.prog 44 #[elv x, .int .u64 n] w fun e w' => e = .returned (elv z) ∧ Below w.heap.size w w' := by subst h; exact ppow_any x n hn w
theorem s_inv {x z : Ga.E} {c : Int} (h : Ga.inv x = (z, c)) (w : World) :
    Calls Try.prog 40 #[elv x] w fun e w' => e = .returned (.tuple #[elv z, .int .i64 c]) ∧ Below w.heap.size w w' :=
  (pinv_any x w).mono fun e w' hh => by rw [h] at hh; exact hh

/-- Are two elements the same? -/
def eqE (a b c d : Int) : Bool := a == c && b == d
theorem eqE_self (a b : Int) : eqE a b a b = true := by simp [eqE]
theorem eqE_ne {x y : Ga.E} (h : x ≠ y) : eqE x.1 x.2 y.1 y.2 = false := by
  unfold eqE
  rw [Bool.and_eq_false_iff, beq_eq_false_iff_ne, beq_eq_false_iff_ne]
  by_cases h1 : x.1 = y.1
  · exact .inr fun h2 => h (Prod.ext h1 h2)
  · exact .inl h1
theorem eqE_eq {x y : Ga.E} (h : x = y) : eqE x.1 x.2 y.1 y.2 = true := by subst h; exact eqE_self _ _
theorem eq_elE (a b c d : Int) (w : World) : (Op.equalIn 10000 24 (el a b) (el c d)).run Try.prog w = .ok (eqE a b c d) w := eq_el a b c d w

/-- A call keeps whatever abides growth. -/
theorem keepS {F : Nat} {args : Array Value} {r : Value} {w : World} (S : World → Prop) (hk : ∀ a b, S a → Below a.heap.size a b → S b) (hc : Calls Try.prog F args w fun e w' => e = .returned r ∧ Below w.heap.size w w') (h : S w) :
    Calls Try.prog F args w fun e w' => e = .returned r ∧ S w' :=
  hc.mono fun _ _ ⟨he, hb⟩ => ⟨he, hk _ _ h hb⟩

end Go.Proofs.Ytngmkokmomficaa
