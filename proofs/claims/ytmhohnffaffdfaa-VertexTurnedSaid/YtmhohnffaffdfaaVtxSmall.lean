/- Package vertex as it landed, and the document's: rounds, shares; what a vertex's own cells are. -/
import Derived.Test.YtmhohnffaffdfaaVtxMath
import Derived.Test.YtmhohnffaffdfaaVtxSeat
import Derived.Test.YtmhohnffaffdfaaBatSameR
import Derived.Test.YtmhohnffaffdfaaBatBytes
import Derived.Test.YtmhohnffaffdfaaDigLess
import Derived.Laws.StructEq
namespace Go.Proofs.Ytmhohnffaffdfaa
open Go.RowKit

/-- An element as a value. -/
abbrev el (a b : Int) : Value := .agg #[.int .i64 a, .int .i64 b]
theorem eq_el (a b c d : Int) (w : World) : (Op.equalIn 10000 26 (el a b) (el c d)).run Try.prog w = .ok (a == c && b == d) w := by
  have hS : Try.prog.underlying 26 = some (.struct (Try.prog.fieldsOf 26)) := by kernel_rfl
  have hp : Try.prog.stoodInHeld 26 = false := by kernel_rfl
  have u1 := Try.underlying3
  rw [show (10000 : Nat) = 9999 + 1 from rfl, run_equalIn_agg w 9999 26 _ _ hS hp]
  simp only [Program.fieldsOf, Try.underlying26]
  go_simp
  by_cases h1 : a = c <;> by_cases h2 : b = d <;> simp [h1, h2]
theorem guard_el (op : BinOp) (o1 o2 : Operand) (xs ys : Array Value) (w : World) : (eqGuard op 26 o1 o2 (.agg xs) (.agg ys)).run Try.prog w = .ok () w := run_eqGuard_agg w op 26 o1 o2 xs ys (by kernel_rfl)
theorem build_el (a b : Int) (w : World) : (Instr.build 26 #[(0, .int .i64 a), (1, .int .i64 b)]).run Try.prog w = .ok (el a b) w := run_build w 26 _ _ (by kernel_rfl)
theorem build_el0 (w : World) : (Instr.build 26 #[]).run Try.prog w = .ok (el 0 0) w := run_build w 26 _ _ (by kernel_rfl)
attribute [local go_sem] build_el build_el0 eq_el guard_el

theorem pelmay (a b : Int) (w : World) : Calls Try.prog 51 #[el a b] w fun e w' => e = .returned (.bool (Vt.elemMay a b)) ∧ Below w.heap.size w w' := by
  have HG := Lib.hid (show Below w.heap.size w (w.alloc (.cells #[.int .i64 a, .int .i64 b] 26)) from (Below.refl _ _).alloc (Nat.le_refl _) _)
  by_cases h1 : 0 ≤ a
  · have t1 : decide (0 ≤ a) = true := by simpa using h1
    by_cases h2 : a < 10007
    · have t2 : decide (a < 10007) = true := by simpa using h2
      by_cases h3 : 0 ≤ b
      · have t3 : decide (0 ≤ b) = true := by simpa using h3
        have e : Vt.elemMay a b = decide (b < 10007) := by rw [Vt.elemMay, decide_eq_decide]; omega
        rw [e]
        clear e h1 h2 h3
        go_enter Try.func51, Try.ntmps51
        go_wp2
        go_ret
        exact ⟨rfl, HG.out⟩
      · have t3 : decide (0 ≤ b) = false := by simpa using h3
        have e : Vt.elemMay a b = false := by rw [Vt.elemMay, decide_eq_false_iff_not]; omega
        rw [e]
        clear e h1 h2 h3
        go_enter Try.func51, Try.ntmps51
        go_wp2
        go_ret
        exact ⟨rfl, HG.out⟩
    · have t2 : decide (a < 10007) = false := by simpa using h2
      have e : Vt.elemMay a b = false := by rw [Vt.elemMay, decide_eq_false_iff_not]; omega
      rw [e]
      clear e h1 h2
      go_enter Try.func51, Try.ntmps51
      go_wp2
      go_ret
      exact ⟨rfl, HG.out⟩
  · have t1 : decide (0 ≤ a) = false := by simpa using h1
    have e : Vt.elemMay a b = false := by rw [Vt.elemMay, decide_eq_false_iff_not]; omega
    rw [e]
    clear e h1
    go_enter Try.func51, Try.ntmps51
    go_wp2
    go_ret
    exact ⟨rfl, HG.out⟩

theorem relmay (a b : Int) (w : World) : Calls Try.prog 41 #[el a b] w fun e w' => e = .returned (.bool (Vt.elemMay a b)) ∧ Below w.heap.size w w' := by
  have HG := Lib.hid (show Below w.heap.size w (w.alloc (.cells #[.int .i64 a, .int .i64 b] 26)) from (Below.refl _ _).alloc (Nat.le_refl _) _)
  by_cases h1 : 0 ≤ a
  · have t1 : decide (0 ≤ a) = true := by simpa using h1
    by_cases h2 : a < 10007
    · have t2 : decide (a < 10007) = true := by simpa using h2
      by_cases h3 : 0 ≤ b
      · have t3 : decide (0 ≤ b) = true := by simpa using h3
        have e : Vt.elemMay a b = decide (b < 10007) := by rw [Vt.elemMay, decide_eq_decide]; omega
        rw [e]
        clear e h1 h2 h3
        go_enter Try.func41, Try.ntmps41
        go_wp2
        go_ret
        exact ⟨rfl, HG.out⟩
      · have t3 : decide (0 ≤ b) = false := by simpa using h3
        have e : Vt.elemMay a b = false := by rw [Vt.elemMay, decide_eq_false_iff_not]; omega
        rw [e]
        clear e h1 h2 h3
        go_enter Try.func41, Try.ntmps41
        go_wp2
        go_ret
        exact ⟨rfl, HG.out⟩
    · have t2 : decide (a < 10007) = false := by simpa using h2
      have e : Vt.elemMay a b = false := by rw [Vt.elemMay, decide_eq_false_iff_not]; omega
      rw [e]
      clear e h1 h2
      go_enter Try.func41, Try.ntmps41
      go_wp2
      go_ret
      exact ⟨rfl, HG.out⟩
  · have t1 : decide (0 ≤ a) = false := by simpa using h1
    have e : Vt.elemMay a b = false := by rw [Vt.elemMay, decide_eq_false_iff_not]; omega
    rw [e]
    clear e h1
    go_enter Try.func41, Try.ntmps41
    go_wp2
    go_ret
    exact ⟨rfl, HG.out⟩

theorem pthird (r : Int) (w : World) : Calls Try.prog 14 #[.int .i64 r] w fun e w' => e = .returned (.bool (Vt.third r)) ∧ w' = w := by
  by_cases h1 : 1 ≤ r
  · have t1 : decide (1 ≤ r) = true := by simpa using h1
    have e : Vt.third r = (r % 3 == 0) := by
      rw [Vt.third, Bool.eq_iff_iff, decide_eq_true_iff, beq_iff_eq]; omega
    have E := Lib.hid e
    clear e
    have h0 : 0 ≤ r := by omega
    go_enter Try.func14, Try.ntmps14
    go_wp2
    go_ret
    exact ⟨by rw [E.out]; rfl, rfl⟩
  · have t1 : decide (1 ≤ r) = false := by simpa using h1
    have e : Vt.third r = false := by rw [Vt.third, decide_eq_false_iff_not]; omega
    rw [e]
    clear e h1
    go_enter Try.func14, Try.ntmps14
    go_wp2
    go_ret
    exact ⟨rfl, rfl⟩
theorem rthird (r : Int) (w : World) : Calls Try.prog 42 #[.int .i64 r] w fun e w' => e = .returned (.bool (Vt.third r)) ∧ w' = w := by
  by_cases h1 : 0 < r
  · have t1 : decide (0 < r) = true := by simpa using h1
    have e : Vt.third r = (r % 3 == 0) := by
      rw [Vt.third, Bool.eq_iff_iff, decide_eq_true_iff, beq_iff_eq]; omega
    have E := Lib.hid e
    clear e
    have h0 : 0 ≤ r := by omega
    go_enter Try.func42, Try.ntmps42
    go_wp2
    go_ret
    exact ⟨by rw [E.out]; rfl, rfl⟩
  · have t1 : decide (0 < r) = false := by simpa using h1
    have e : Vt.third r = false := by rw [Vt.third, decide_eq_false_iff_not]; omega
    rw [e]
    clear e h1
    go_enter Try.func42, Try.ntmps42
    go_wp2
    go_ret
    exact ⟨rfl, rfl⟩
theorem pthird_eq {r : Int} {b : Bool} (h : Vt.third r = b) (w : World) : Calls Try.prog 14 #[.int .i64 r] w fun e w' => e = .returned (.bool b) ∧ w' = w := by subst h; exact pthird r w
theorem rthird_eq {r : Int} {b : Bool} (h : Vt.third r = b) (w : World) : Calls Try.prog 42 #[.int .i64 r] w fun e w' => e = .returned (.bool b) ∧ w' = w := by subst h; exact rthird r w
theorem pelmay_eq {a b : Int} {x : Bool} (h : Vt.elemMay a b = x) (w : World) : Calls Try.prog 51 #[el a b] w fun e w' => e = .returned (.bool x) ∧ Below w.heap.size w w' := by subst h; exact pelmay a b w
theorem relmay_eq {a b : Int} {x : Bool} (h : Vt.elemMay a b = x) (w : World) : Calls Try.prog 41 #[el a b] w fun e w' => e = .returned (.bool x) ∧ Below w.heap.size w w' := by subst h; exact relmay a b w

/-- A vertex as a value. -/
abbrev vtxV (a r : Int) (b p : Value) (x y : Int) : Value := .agg #[.int .i64 a, .int .i64 r, b, p, .int .i64 x, .int .i64 y]
/-- A vertex's own cells, in a block. -/
def VBox (W : World) (B : Nat) (a r : Int) (b p : Value) (x y : Int) : Prop := W.heap[B]? = some (.cells #[.int .i64 a, .int .i64 r, b, p, .int .i64 x, .int .i64 y] 28 (0, 0))
section
variable {W W' : World} {B n : Nat} {a r x y : Int} {b p : Value}
theorem VBox.lt (h : VBox W B a r b p x y) : B < W.heap.size := (Array.getElem?_eq_some_iff.1 h).1
theorem VBox.cells (h : VBox W B a r b p x y) : W.cell? ⟨B, 0, none⟩ = some (.int .i64 a) ∧ W.cell? ⟨B, 1, none⟩ = some (.int .i64 r) ∧ W.cell? ⟨B, 2, none⟩ = some b ∧ W.cell? ⟨B, 3, none⟩ = some p ∧ W.cell? ⟨B, 4, none⟩ = some (.int .i64 x) ∧ W.cell? ⟨B, 5, none⟩ = some (.int .i64 y) := by
  have e : W.heap[B]? = _ := h
  refine ⟨?_, ?_, ?_, ?_, ?_, ?_⟩ <;> simp [World.cell?, e]
theorem VBox.free (h : VBox W B a r b p x y) : W.frozen? ⟨B, 0, none⟩ = false ∧ W.frozen? ⟨B, 1, none⟩ = false ∧ W.frozen? ⟨B, 2, none⟩ = false ∧ W.frozen? ⟨B, 3, none⟩ = false ∧ W.frozen? ⟨B, 4, none⟩ = false ∧ W.frozen? ⟨B, 5, none⟩ = false := by
  have e : W.heap[B]? = _ := h
  refine ⟨?_, ?_, ?_, ?_, ?_, ?_⟩ <;> simp [World.frozen?, e]
theorem VBox.new (W : World) (a r : Int) (b p : Value) (x y : Int) : VBox (W.alloc (.cells #[.int .i64 a, .int .i64 r, b, p, .int .i64 x, .int .i64 y] 28)) W.heap.size a r b p x y := World.alloc_heap_new W _
theorem VBox.below (h : VBox W B a r b p x y) (hb : Below n W W') (hn : B < n) : VBox W' B a r b p x y := (hb.block B hn).trans h
theorem VBox.kept (h : VBox W B a r b p x y) (hb : Below W.heap.size W W') : VBox W' B a r b p x y := h.below hb h.lt
theorem VBox.alloc (h : VBox W B a r b p x y) (o : Obj) : VBox (W.alloc o) B a r b p x y := h.below ((Below.refl _ _).alloc (Nat.le_refl _) o) h.lt
end
end Go.Proofs.Ytmhohnffaffdfaa
