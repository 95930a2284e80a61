/- A variable of two numbers in a block of its own. -/
import Derived.Test.YtngmkokmomficaaGaussGo
import Derived.Test.YtngmkokmomficaaGaussMath
import Derived.RangeFuncBox
namespace Go.Proofs.Ytngmkokmomficaa
open Go.RowKit

def EBox (W : World) (B : Nat) (x : Ga.E) : Prop := W.heap[B]? = some (.cells #[.int .i64 x.1, .int .i64 x.2] 24 (0, 0))
theorem EBox.lt {W : World} {B : Nat} {x : Ga.E} (h : EBox W B x) : B < W.heap.size := (Array.getElem?_eq_some_iff.1 h).1
theorem EBox.facts {W : World} {B : Nat} {x : Ga.E} (h : EBox W B x) : W.cell? ⟨B, 0, none⟩ = some (.int .i64 x.1) ∧ W.cell? ⟨B, 1, none⟩ = some (.int .i64 x.2) ∧ W.frozen? ⟨B, 0, none⟩ = false ∧ W.frozen? ⟨B, 1, none⟩ = false := by
  have e : W.heap[B]? = _ := h
  refine ⟨?_, ?_, ?_, ?_⟩ <;> simp [World.cell?, World.frozen?, e]
theorem EBox.new (W : World) (a b : Int) : EBox (W.alloc (.cells #[.int .i64 a, .int .i64 b] 24)) W.heap.size (a, b) := World.alloc_heap_new W _
theorem EBox.below {W W' : World} {B n : Nat} {x : Ga.E} (h : EBox W B x) (hb : Below n W W') (hn : B < n) : EBox W' B x := (hb.block B hn).trans h
theorem EBox.alloc {W : World} {B : Nat} {x : Ga.E} (h : EBox W B x) (o : Obj) : EBox (W.alloc o) B x := h.below ((Below.refl _ _).alloc (Nat.le_refl _) o) h.lt
theorem EBox.kept {W W' : World} {B : Nat} {x : Ga.E} (h : EBox W B x) (hb : Below W.heap.size W W') : EBox W' B x := h.below hb h.lt
theorem heap_set {W : World} {B k : Nat} {cs : Array Value} {t : TypeId} (h : W.heap[B]? = some (.cells cs t (0, 0))) (v : Value) : (W.setCell ⟨B, k, none⟩ v).heap[B]? = some (.cells (cs.setIfInBounds k v) t (0, 0)) := by
  obtain ⟨hlt, hk⟩ := Array.getElem?_eq_some_iff.1 h
  show (W.heap.modify B _)[B]? = _
  rw [Array.getElem?_eq_getElem (by rw [Array.size_modify]; exact hlt), Array.getElem_modify_self, hk]
  rfl
theorem EBox.set {W : World} {B : Nat} {x : Ga.E} (h : EBox W B x) (a b : Int) : EBox ((W.setCell ⟨B, 0, none⟩ (.int .i64 a)).setCell ⟨B, 1, none⟩ (.int .i64 b)) B (a, b) := by
  have h1 := heap_set (k := 0) h (.int .i64 a)
  have h2 := heap_set (k := 1) h1 (.int .i64 b)
  exact h2
theorem EBox.other {W : World} {B : Nat} {x : Ga.E} (h : EBox W B x) (C o : Nat) (v : Value) (hne : C ≠ B) : EBox (W.setCell ⟨C, o, none⟩ v) B x := by
  have := Below.heap_setCell W ⟨C, o, none⟩ v B (fun e => hne e.symm)
  exact this.trans h
end Go.Proofs.Ytngmkokmomficaa
