/- A []byte that the call itself made of a text (the model marks one place behind its cells), and what is appended to it. -/
import Derived.Test.YtkkiedmcpibnaaaDoorRows
import Derived.Test.YtkkiedmcpibnaaaDoorBase
import Derived.WalkKit
import Derived.WalkSpells
import Derived.WalkLawsBesides
import Derived.Laws.BytesArg
import Derived.Lib.Hide
import Derived.Lib.AppendStr
import Derived.Laws.IdiomStrings
import Derived.Laws.CopyRow
namespace Go.Proofs.YtkkiedmcpibnaaaDoor
open Go.RowKit

/-- The slice v, in a block of the call's own (from base on), holds the bytes l; no cell of the block is frozen. -/
def MarkRow (w : World) (base : Nat) (e : TypeId) (v : Value) (l : List UInt8) : Prop :=
  ∃ g cap cur fz, v = .slice (some ⟨g, 0, none⟩) l.length cap ∧ base ≤ g ∧ w.heap[g]? = some (.cells cur e fz) ∧ (fz.2 ≤ fz.1 ∨ cap ≤ fz.1) ∧ l.length ≤ cap ∧ cap ≤ maxLen ∧ cur.size = cap ∧ cur.toList.take l.length = l.map bv

theorem MarkRow.lt {w : World} {base : Nat} {e : TypeId} {v : Value} {l : List UInt8} (h : MarkRow w base e v l) : ∀ k, v.ownBlock = some k → base ≤ k ∧ k < w.heap.size := by
  obtain ⟨g, cap, cur, fz, rfl, hb, hg, _⟩ := h
  intro k hk
  simp only [Value.ownBlock, Option.some.injEq] at hk
  subst hk
  exact ⟨hb, (Array.getElem?_eq_some_iff.1 hg).1⟩

theorem MarkRow.below {w w' : World} {base : Nat} {e : TypeId} {v : Value} {l : List UInt8} (h : MarkRow w base e v l) (hb : Below w.heap.size w w') : MarkRow w' base e v l := by
  obtain ⟨g, cap, cur, fz, rfl, hg0, hg, r⟩ := h
  exact ⟨g, cap, cur, fz, rfl, hg0, by rw [hb.block g (Array.getElem?_eq_some_iff.1 hg).1]; exact hg, r⟩

theorem MarkRow.cell {w : World} {base : Nat} {e : TypeId} {v : Value} {l : List UInt8} (h : MarkRow w base e v l) :
    ∃ g cap, v = .slice (some ⟨g, 0, none⟩) l.length cap ∧ ∀ i, i < l.length → w.cell? ⟨g, 0 + i, none⟩ = some (.int .u8 ((l.map fun y => (y.toNat : Int)).getD i 0)) := by
  obtain ⟨g, cap, cur, fz, rfl, _, hg, _, hl, _, hs, ht⟩ := h
  refine ⟨g, cap, rfl, fun i hi => ?_⟩
  have e1 : (cur.toList.take l.length)[i]? = some (bv l[i]) := by rw [ht]; simp [hi]
  rw [List.getElem?_take_of_lt hi] at e1
  simp only [World.cell?, hg, Nat.zero_add]
  rw [show ((l.map fun y => (y.toNat : Int)).getD i 0) = (l[i].toNat : Int) by simp [List.getD, hi]]
  simpa [bv] using e1

theorem strCells_tx (l : List UInt8) : Lib.strCells ⟨l.toArray⟩ = l.map bv := rfl

/-- '[]byte(s)'. -/
theorem MarkRow.made {P : Program} (w : World) (src dst e : TypeId) (l : List UInt8) (hl : l.length ≤ maxLen) (hs : P.underlying src = some .string) (hd : P.underlying dst = some (.slice e)) (he : P.underlying e = some (.int .u8)) :
    ∃ v w', (convert src dst (tx l)).run P w = .ok v w' ∧ MarkRow w' w.heap.size e v l ∧ Below w.heap.size w w' := by
  have hz : (ByteArray.mk l.toArray).size = l.length := rfl
  have hge := grownCap_ge w l.length 0 e
  have hcm := grownCap_le_maxLen w l.length 0 e hl
  have hsz : (bytesRow (ByteArray.mk l.toArray) (grownCap w l.length 0 e)).size = grownCap w l.length 0 e := by
    simp only [bytesRow, Array.size_append, Array.size_map, Array.size_replicate, List.size_toArray, hz]
    omega
  refine ⟨_, _, run_bytes_of_string w src dst e _ hs hd he, ⟨w.heap.size, grownCap w l.length 0 e, bytesRow (ByteArray.mk l.toArray) (grownCap w l.length 0 e), _, rfl, Nat.le_refl _, heap_alloc_new w.drew _, .inr ?_, hge, hcm, hsz, ?_⟩, ?_⟩
  · show _ ≤ (bytesRow (ByteArray.mk l.toArray) (grownCap w l.length 0 e)).size
    omega
  · simp [bytesRow, bv]
  · exact ((Below.refl _ _).drew).alloc (Nat.le_refl _) _

/-- Storing cells into such a block. -/
theorem store_cells_mark (P : Program) (g o : Nat) (t : TypeId) (fz : Nat × Nat) : ∀ (vs : List Value) (i : Nat) (cur : Array Value) (w : World), w.heap[g]? = some (.cells cur t fz) → (fz.2 ≤ fz.1 ∨ cur.size ≤ fz.1) → o + i + vs.length ≤ cur.size →
    (∀ v ∈ vs, v.oneCell' = true) → (storeCells ⟨g, o, none⟩ vs i).run P w = .ok () (w.setRow g (cur.toList.take (o + i) ++ vs ++ cur.toList.drop (o + i + vs.length)).toArray) := by
  intro vs
  induction vs with
  | nil =>
    intro i cur w hg _ _ _
    have e : (cur.toList.take (o + i) ++ [] ++ cur.toList.drop (o + i + ([] : List Value).length)).toArray = cur := by simp
    rw [e, setRow_self w g cur t fz hg]
    rfl
  | cons v rest ih =>
    intro i cur w hg hf hl h1
    simp only [List.length_cons] at hl
    have hi : o + i < cur.size := by omega
    have ha : (⟨g, o, none⟩ : Addr).add i = ⟨g, o + i, none⟩ := by unfold Addr.add; split <;> simp_all
    have hc : w.cell? ⟨g, o + i, none⟩ = some cur[o + i] := by simp [World.cell?, hg, hi]
    have hz : w.frozen? ⟨g, o + i, none⟩ = false := by
      obtain ⟨lo, up⟩ := fz
      simp only [World.frozen?, hg, Bool.and_eq_false_iff, decide_eq_false_iff_not]
      simp only at hf
      omega
    have hs : (store ((⟨g, o, none⟩ : Addr).add i) v).run P w = .ok () (w.setRow g (cur.setIfInBounds (o + i) v)) := by
      rw [ha, run_store P w _ v _ (h1 v (by simp)), hc]
      simp [hz, setCell_eq_setRow w g (o + i) cur t fz v hg]
    have hr := ih (i + 1) (cur.setIfInBounds (o + i) v) (w.setRow g (cur.setIfInBounds (o + i) v)) (setRow_heap w g cur _ t _ hg) (by simpa using hf) (by simp; omega) (fun x hx => h1 x (by simp [hx]))
    simp only [storeCells, Sem.run_bind, hs, Result.andThen_ok, hr, setRow_setRow]
    congr 3
    have e := list_seg_step cur.toList (o + i) v rest (by simp; omega)
    simpa [Array.toList_setIfInBounds, Nat.add_assoc] using e

/-- 'append(b, s...)'. -/
theorem MarkRow.appended {P : Program} {w : World} {base : Nat} {e : TypeId} {v : Value} {l : List UInt8} (h : MarkRow w base e v l) (t u ty : TypeId) (i : TypeInfo) (ht : P.underlying t = some (.slice e)) (hu : P.underlying u = some .string)
    (hi : P.info? e = some i) (hz : i.zero = some (.int .u8 0)) (h1 : i.size = 1) (hy : i.bytes = 1) (s : List UInt8) (hs : l.length + s.length ≤ 140737488355328) (hbase : base ≤ w.heap.size) :
    ∃ v' w', (Builtin.append_ #[t, u] ty #[v, tx s]).run P w = .ok v' w' ∧ MarkRow w' base e v' (l ++ s) ∧ w.grownBy w' v.ownBlock := by
  obtain ⟨g, cap, cur, fz, rfl, hb, hg, hf, hl, hm, hsz, htk⟩ := h
  have hss : (ByteArray.mk s.toArray).size = s.length := rfl
  have hml : l.length + s.length ≤ maxLen := by unfold maxLen; omega
  by_cases hroom : l.length + s.length ≤ cap
  · have hfst := Lib.run_firstCells_string (P := P) w 1 ⟨s.toArray⟩
    have hst := store_cells_mark P g l.length e fz (Lib.strCells ⟨s.toArray⟩) 0 cur w hg (by rw [hsz]; exact hf) (by rw [Lib.strCells_length, hss]; omega) (Lib.strCells_oneCell _)
    rw [Lib.strCells_length, hss] at hst
    simp only [Nat.add_zero] at hst
    refine ⟨.slice (some ⟨g, 0, none⟩) (l ++ s).length cap, w.setRow g (cur.toList.take l.length ++ Lib.strCells ⟨s.toArray⟩ ++ cur.toList.drop (l.length + s.length)).toArray, ?_, ⟨g, cap, _, fz, rfl, hb, setRow_heap w g cur _ e _ hg, hf, by simpa using hroom, hm, ?_, ?_⟩, ⟨rfl, rfl, rfl, by simp, fun k _ hk => setRow_other w g k _ (fun e => hk (by simp [Value.ownBlock, e]))⟩⟩
    · rw [hss] at hfst
      simp [Builtin.append_, run_underlying ht, run_underlying hu, sizeOf, typeInfo, hi, h1, Builtin.lenOf, hss, hroom, hfst, Addr.add_lit, hst]
    · simp [Lib.strCells_length, hss]; omega
    · rw [htk, strCells_tx]
      simp only [List.map_append]
      exact List.take_left' (by simp)
  · have hcell : ∀ j x, (l.map bv)[j]? = some x → w.cell? ((⟨g, 0, none⟩ : Addr).add j) = some x := by
      intro j x hj
      have ha : (⟨g, 0, none⟩ : Addr).add j = ⟨g, j, none⟩ := by unfold Addr.add; split <;> simp_all
      rw [ha]
      rw [← htk] at hj
      simp only [World.cell?, hg]
      rw [List.getElem?_take] at hj
      split at hj
      · simpa using hj
      · cases hj
    have hr := Lib.run_append_grow_string (P := P) w t u ty e i (.int .u8 0) ht hu hi hz ⟨g, 0, none⟩ l.length cap (l.map bv) (by rw [h1]; simp) hcell ⟨s.toArray⟩ (by rw [hss]; omega) (by rw [hss]; omega)
      (by rw [hy, hss]; exact growslice_fits (by omega) (by omega))
    rw [hss] at hr
    have hge := grownCap_ge w (l.length + s.length) cap e
    have hcm := grownCap_le_maxLen w (l.length + s.length) cap e hml
    refine ⟨_, _, hr, ⟨w.heap.size, grownCap w (l.length + s.length) cap e, _, (0, 0), by simp, hbase, heap_alloc_new w.drew _, .inl (Nat.le_refl _), by simpa using hge, hcm, ?_, ?_⟩, ⟨rfl, rfl, rfl, by simp, fun k hk _ => heap_alloc_old w.drew _ hk⟩⟩
    · have hz1 : (Value.int IntKind.u8 0).cells.size = 1 := rfl
      simp only [Array.size_append, List.size_toArray, size_zeroCells, hz1, List.length_map, Lib.strCells_length, hss]
      omega
    · rw [strCells_tx]
      simp only [Array.toList_append, List.map_append]
      exact List.take_left' (by simp)
/-- 'append(b, s...)', for the walk. -/
theorem wpList_append_mark {P : Program} {w : World} {ops : Array Oper} {rest : List Oper} {o : Oper} {a : Act} {Q : Exit → Act → World → Prop} (hgd : o.guard = none) (sl x : Operand) (t u : TypeId)
    (ho : o.op = .call { callee := .builtin .append, args := #[sl, x], argTypes := #[t, u] }) (base : Nat) (e : TypeId) (i : TypeInfo) (ht : P.underlying t = some (.slice e)) (hu : P.underlying u = some .string)
    (hi : P.info? e = some i) (hz : i.zero = some (.int .u8 0)) (h1 : i.size = 1) (hy : i.bytes = 1) (v : Value) (l s : List UInt8) (hv : a.eval sl = v) (h : MarkRow w base e v l) (hx : a.eval x = tx s)
    (hs : l.length + s.length ≤ 140737488355328) (hbase : base ≤ w.heap.size)
    (k : ∀ v' w', MarkRow w' base e v' (l ++ s) → w.grownBy w' v.ownBlock → wpList P ops Q rest (a.put o.dst v') w') : wpList P ops Q (o :: rest) a w := by
  obtain ⟨v', w', hr, h2, h3⟩ := h.appended t u o.type i ht hu hi hz h1 hy s hs hbase
  refine wpList_plain hgd fun K hK => ?_
  unfold Oper.wp execOp
  simp only [ho, resolve, invoke, builtin, Sem.run_bind, Sem.run_pure, Result.andThen_ok, List.map_toArray, List.map_cons, List.map_nil, hv, hx, hr]
  exact hK _ _ (k v' w' h2 h3)
end Go.Proofs.YtkkiedmcpibnaaaDoor
