/- A variable of three cells in a block of its own: a batch. -/
import Derived.Test.YtflmfbcjmjlkbaaDoorTxs
import Derived.RangeFuncBox
namespace Go.Proofs.YtflmfbcjmjlkbaaDoor
open Go.RowKit

def BBox (W : World) (B : Nat) (o q : Int) (v : Value) : Prop := W.heap[B]? = some (.cells #[.int .i64 o, .int .i64 q, v] 68 (0, 0))
theorem BBox.lt {W : World} {B : Nat} {o q : Int} {v : Value} (h : BBox W B o q v) : B < W.heap.size := (Array.getElem?_eq_some_iff.1 h).1
theorem BBox.facts {W : World} {B : Nat} {o q : Int} {v : Value} (h : BBox W B o q v) : W.cell? ⟨B, 0, none⟩ = some (.int .i64 o) ∧ W.cell? ⟨B, 1, none⟩ = some (.int .i64 q) ∧ W.cell? ⟨B, 2, none⟩ = some v ∧ W.frozen? ⟨B, 0, none⟩ = false ∧ W.frozen? ⟨B, 1, none⟩ = false ∧ W.frozen? ⟨B, 2, none⟩ = false := by
  have e : W.heap[B]? = _ := h
  refine ⟨?_, ?_, ?_, ?_, ?_, ?_⟩ <;> simp [World.cell?, World.frozen?, e]
theorem BBox.new (W : World) (o q : Int) (v : Value) : BBox (W.alloc (.cells #[.int .i64 o, .int .i64 q, v] 68)) W.heap.size o q v := World.alloc_heap_new W _
theorem BBox.below {W W' : World} {B n : Nat} {o q : Int} {v : Value} (h : BBox W B o q v) (hb : Below n W W') (hn : B < n) : BBox W' B o q v := (hb.block B hn).trans h
theorem BBox.alloc {W : World} {B : Nat} {o q : Int} {v : Value} (h : BBox W B o q v) (b : Obj) : BBox (W.alloc b) B o q v := h.below ((Below.refl _ _).alloc (Nat.le_refl _) b) h.lt
theorem BBox.kept {W W' : World} {B : Nat} {o q : Int} {v : Value} (h : BBox W B o q v) (hb : Below W.heap.size W W') : BBox W' B o q v := h.below hb h.lt
theorem heap_set3 {W : World} {B k : Nat} {cs : Array Value} {t : TypeId} (h : W.heap[B]? = some (.cells cs t (0, 0))) (v : Value) : (W.setCell ⟨B, k, none⟩ v).heap[B]? = some (.cells (cs.setIfInBounds k v) t (0, 0)) := by
  obtain ⟨hlt, hk⟩ := Array.getElem?_eq_some_iff.1 h
  show (W.heap.modify B _)[B]? = _
  rw [Array.getElem?_eq_getElem (by rw [Array.size_modify]; exact hlt), Array.getElem_modify_self, hk]
  rfl
theorem BBox.set {W : World} {B : Nat} {o q : Int} {v : Value} (h : BBox W B o q v) (a b : Int) (u : Value) : BBox (((W.setCell ⟨B, 0, none⟩ (.int .i64 a)).setCell ⟨B, 1, none⟩ (.int .i64 b)).setCell ⟨B, 2, none⟩ u) B a b u := by
  have h1 := heap_set3 (k := 0) h (.int .i64 a)
  have h2 := heap_set3 (k := 1) h1 (.int .i64 b)
  have h3 := heap_set3 (k := 2) h2 u
  exact h3
theorem BBox.set_below {W W' : World} {n B : Nat} (h : Below n W W') (hB : n ≤ B) (a b : Int) (u : Value) : Below n W (((W'.setCell ⟨B, 0, none⟩ (.int .i64 a)).setCell ⟨B, 1, none⟩ (.int .i64 b)).setCell ⟨B, 2, none⟩ u) :=
  ((h.setCell (p := ⟨B, 0, none⟩) hB _).setCell (p := ⟨B, 1, none⟩) hB _).setCell (p := ⟨B, 2, none⟩) hB _
theorem BBox.set_other (W : World) (B : Nat) (x y z : Value) (k : Nat) (h : k ≠ B) : (((W.setCell ⟨B, 0, none⟩ x).setCell ⟨B, 1, none⟩ y).setCell ⟨B, 2, none⟩ z).heap[k]? = W.heap[k]? :=
  (Below.heap_setCell _ ⟨B, 2, none⟩ z k h).trans ((Below.heap_setCell _ ⟨B, 1, none⟩ y k h).trans (Below.heap_setCell _ ⟨B, 0, none⟩ x k h))
/-- Texts don't lie in a batch's own cells. -/
theorem TxAt.setB {W : World} {v : Value} {ls : List (List UInt8)} {B n c : Nat} {a b : Int} {s : Option Addr} (h : TxAt W v ls) (hx : BBox W B a b (.slice s n c)) (x y z : Value) :
    TxAt (((W.setCell ⟨B, 0, none⟩ x).setCell ⟨B, 1, none⟩ y).setCell ⟨B, 2, none⟩ z) v ls := by
  rcases h with h | ⟨g, off, cap, hv, hc⟩
  · exact .inl h
  · refine .inr ⟨g, off, cap, hv, fun i hi => ?_⟩
    have h1 := hc i hi
    by_cases e : g = B
    · subst e
      exfalso
      have e2 : W.heap[g]? = _ := hx
      simp only [World.cell?, e2] at h1
      have e3 : (#[Value.int .i64 a, .int .i64 b, .slice s n c])[off + i]? = some (tx ls[i]) := by simpa using h1
      generalize off + i = j at e3
      match j, e3 with
      | 0, e3 => simp at e3
      | 1, e3 => simp at e3
      | 2, e3 => simp at e3
      | j + 3, e3 => simp at e3
    · rw [World.cell?_of_block (w := W) (a := ⟨g, off + i, none⟩) (BBox.set_other W B x y z g e)]
      exact h1
end Go.Proofs.YtflmfbcjmjlkbaaDoor
