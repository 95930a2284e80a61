/- A block of cells of one's own, whatever they are. -/
import Derived.Test.YtbkpekpajeaacaaGDig
import Derived.RangeFuncBox
namespace Go.Proofs.Ytbkpekpajeaacaa
open Go.RowKit
def Blk (W : World) (B : Nat) (T : TypeId) (cs : List Value) : Prop := W.heap[B]? = some (.cells cs.toArray T (0, 0))
section
variable {W W' : World} {B : Nat} {T : TypeId} {cs : List Value}
theorem Blk.lt (h : Blk W B T cs) : B < W.heap.size := (Array.getElem?_eq_some_iff.1 h).1
theorem Blk.cell (h : Blk W B T cs) (i : Nat) {v : Value} (hv : cs[i]? = some v) : W.cell? ⟨B, i, none⟩ = some v := by
  simp [World.cell?, show W.heap[B]? = _ from h, hv]
theorem Blk.free (h : Blk W B T cs) (i : Nat) : W.frozen? ⟨B, i, none⟩ = false := by
  simp [World.frozen?, show W.heap[B]? = _ from h]
theorem Blk.new (W : World) (T : TypeId) (cs : List Value) : Blk (W.alloc (.cells cs.toArray T)) W.heap.size T cs := World.alloc_heap_new W _
theorem Blk.kept (h : Blk W B T cs) (hb : Below W.heap.size W W') : Blk W' B T cs := (hb.block B h.lt).trans h
theorem Blk.grown {row : Option Nat} (h : Blk W B T cs) (hg : W.grownBy W' row) (hne : some B ≠ row) : Blk W' B T cs := (hg.block B h.lt hne).trans h
theorem Blk.alloc (h : Blk W B T cs) (o : Obj) : Blk (W.alloc o) B T cs := h.kept ((Below.refl _ _).alloc (Nat.le_refl _) o)
theorem Blk.drewN (h : Blk W B T cs) (n : Nat) : Blk (W.drewN n) B T cs := h
theorem Blk.drew (h : Blk W B T cs) : Blk W.drew B T cs := h
theorem Blk.set (h : Blk W B T cs) (i : Nat) (v : Value) {cs' : List Value} (e : cs.set i v = cs') : Blk (W.setCell ⟨B, i, none⟩ v) B T cs' := by
  obtain ⟨hlt, hk⟩ := Array.getElem?_eq_some_iff.1 h
  show (W.heap.modify B _)[B]? = _
  rw [Array.getElem?_eq_getElem (by rw [Array.size_modify]; exact hlt), Array.getElem_modify_self, hk, ← e]
  simp
theorem Blk.other (h : Blk W B T cs) {B' : Nat} (hne : B ≠ B') (i : Nat) (v : Value) : Blk (W.setCell ⟨B', i, none⟩ v) B T cs := by
  show (W.heap.modify B' _)[B]? = _
  rw [Array.getElem?_modify, if_neg (Ne.symm hne)]
  exact h
end
end Go.Proofs.Ytbkpekpajeaacaa
