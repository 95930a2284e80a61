/- A block of three cells of its own. -/
import Derived.Test.YtngmkokmomficaaBase
import Derived.RangeFuncBox
namespace Go.Proofs.Ytngmkokmomficaa
open Go.RowKit

/-- A block of three cells of its own. -/
def KBox (W : World) (B : Nat) (t : TypeId) (a b c : Value) : Prop := W.heap[B]? = some (.cells #[a, b, c] t (0, 0))
theorem KBox.lt {W : World} {B : Nat} {t : TypeId} {a b c : Value} (h : KBox W B t a b c) : B < W.heap.size := (Array.getElem?_eq_some_iff.1 h).1
theorem KBox.cells {W : World} {B : Nat} {t : TypeId} {a b c : Value} (h : KBox W B t a b c) : W.cell? ⟨B, 0, none⟩ = some a ∧ W.cell? ⟨B, 1, none⟩ = some b ∧ W.cell? ⟨B, 2, none⟩ = some c := by
  have e : W.heap[B]? = _ := h
  refine ⟨?_, ?_, ?_⟩ <;> simp [World.cell?, e]
theorem KBox.free {W : World} {B : Nat} {t : TypeId} {a b c : Value} (h : KBox W B t a b c) : W.frozen? ⟨B, 0, none⟩ = false ∧ W.frozen? ⟨B, 1, none⟩ = false ∧ W.frozen? ⟨B, 2, none⟩ = false := by
  have e : W.heap[B]? = _ := h
  refine ⟨?_, ?_, ?_⟩ <;> simp [World.frozen?, e]
theorem KBox.new (W : World) (t : TypeId) (a b c : Value) : KBox (W.alloc (.cells #[a, b, c] t)) W.heap.size t a b c := World.alloc_heap_new W _
theorem KBox.below {W W' : World} {B n : Nat} {t : TypeId} {a b c : Value} (h : KBox W B t a b c) (hb : Below n W W') (hn : B < n) : KBox W' B t a b c := (hb.block B hn).trans h
theorem KBox.kept {W W' : World} {B : Nat} {t : TypeId} {a b c : Value} (h : KBox W B t a b c) (hb : Below W.heap.size W W') : KBox W' B t a b c := h.below hb h.lt
theorem KBox.drew {W : World} {B : Nat} {t : TypeId} {a b c : Value} (h : KBox W B t a b c) : KBox W.drew B t a b c := h
theorem KBox.alloc {W : World} {B : Nat} {t : TypeId} {a b c : Value} (h : KBox W B t a b c) (o : Obj) : KBox (W.alloc o) B t a b c := h.below ((Below.refl _ _).alloc (Nat.le_refl _) o) h.lt
theorem KBox.grown {W W' : World} {B : Nat} {t : TypeId} {a b c : Value} {row : Option Nat} (h : KBox W B t a b c) (hg : W.grownBy W' row) (hr : some B ≠ row) : KBox W' B t a b c := (hg.block B h.lt hr).trans h
theorem heap_setK {W : World} {B k : Nat} {cs : Array Value} {t : TypeId} (h : W.heap[B]? = some (.cells cs t (0, 0))) (v : Value) : (W.setCell ⟨B, k, none⟩ v).heap[B]? = some (.cells (cs.setIfInBounds k v) t (0, 0)) := by
  obtain ⟨hlt, hk⟩ := Array.getElem?_eq_some_iff.1 h
  show (W.heap.modify B _)[B]? = _
  rw [Array.getElem?_eq_getElem (by rw [Array.size_modify]; exact hlt), Array.getElem_modify_self, hk]
  rfl
theorem KBox.set {W : World} {B : Nat} {t : TypeId} {a b c : Value} (h : KBox W B t a b c) (x y z : Value) : KBox (((W.setCell ⟨B, 0, none⟩ x).setCell ⟨B, 1, none⟩ y).setCell ⟨B, 2, none⟩ z) B t x y z := by
  have h1 := heap_setK (k := 0) h x
  have h2 := heap_setK (k := 1) h1 y
  have h3 := heap_setK (k := 2) h2 z
  exact h3
theorem KBox.set2 {W : World} {B : Nat} {t : TypeId} {a b c : Value} (h : KBox W B t a b c) (z : Value) : KBox (W.setCell ⟨B, 2, none⟩ z) B t a b z := heap_setK (k := 2) h z
theorem KBox.other {W : World} {B B' : Nat} {t : TypeId} {a b c : Value} (h : KBox W B t a b c) (hne : B ≠ B') (k : Nat) (v : Value) : KBox (W.setCell ⟨B', k, none⟩ v) B t a b c := (Below.heap_setCell W ⟨B', k, none⟩ v B hne).trans h
end Go.Proofs.Ytngmkokmomficaa
