/- What is appended to a []byte that was made of a text: bytes of a row. -/
import Derived.Test.YtkkiedmcpibnaaaDoorMark
import Derived.Laws.Append
namespace Go.Proofs.YtkkiedmcpibnaaaDoor
open Go.RowKit

theorem MarkRow.appendedS {P : Program} {w : World} {base : Nat} {e : TypeId} {v : Value} {l : List UInt8} (h : MarkRow w base e v l) (t ty : TypeId) (i : TypeInfo) (ht : P.underlying t = some (.slice e))
    (hi : P.info? e = some i) (hz : i.zero = some (.int .u8 0)) (h1 : i.size = 1) (hy : i.bytes = 1) (s : List UInt8) (a : Addr) (m c : Nat) (hm : s.length = m) (hnews : ∀ j u, (s.map bv)[j]? = some u → w.cell? (a.add j) = some u)
    (hs : l.length + s.length ≤ 140737488355328) (hbase : base ≤ w.heap.size) :
    ∃ v' w', (Builtin.append_ #[t, t] ty #[v, .slice (some a) m c]).run P w = .ok v' w' ∧ MarkRow w' base e v' (l ++ s) ∧ w.grownBy w' v.ownBlock := by
  subst hm
  obtain ⟨g, cap, cur, fz, rfl, hb, hg, hf, hl, hm, hsz, htk⟩ := h
  have hml : l.length + s.length ≤ maxLen := by unfold maxLen; omega
  have hone : ∀ u ∈ s.map bv, u.oneCell' = true := by
    intro u hu
    obtain ⟨y, _, rfl⟩ := List.mem_map.1 hu
    rfl
  by_cases hroom : l.length + s.length ≤ cap
  · have hfst := run_firstCells_some (P := P) w 1 s.length a s.length c (s.map bv) (by simp) hnews
    have hst := store_cells_mark P g l.length e fz (s.map bv) 0 cur w hg (by rw [hsz]; exact hf) (by rw [List.length_map]; omega) hone
    rw [List.length_map] at hst
    simp only [Nat.add_zero] at hst
    refine ⟨.slice (some ⟨g, 0, none⟩) (l ++ s).length cap, w.setRow g (cur.toList.take l.length ++ s.map bv ++ cur.toList.drop (l.length + s.length)).toArray, ?_, ⟨g, cap, _, fz, rfl, hb, setRow_heap w g cur _ e _ hg, hf, by simpa using hroom, hm, ?_, ?_⟩, ?_⟩
    · simp [Builtin.append_, run_underlying ht, sizeOf, typeInfo, hi, h1, Builtin.lenOf, hroom, hfst, Addr.add_lit, hst]
    · simp; omega
    · rw [htk]
      simp only [List.map_append]
      exact List.take_left' (by simp)
    · exact ⟨rfl, rfl, rfl, by simp, fun k _ hk => setRow_other w g k _ (fun e => hk (by rw [e]; rfl))⟩
  · have hcell : ∀ j x, (l.map bv)[j]? = some x → w.cell? ((⟨g, 0, none⟩ : Addr).add j) = some x := by
      intro j x hj
      have ha : (⟨g, 0, none⟩ : Addr).add j = ⟨g, j, none⟩ := by unfold Addr.add; split <;> simp_all
      rw [ha]
      rw [← htk] at hj
      simp only [World.cell?, hg]
      rw [List.getElem?_take] at hj
      split at hj
      · simpa using hj
      · cases hj
    have hr := run_append_grow (P := P) w t ty e i (.int .u8 0) ht hi hz ⟨g, 0, none⟩ l.length cap (l.map bv) (by rw [h1]; simp) hcell a s.length c (s.map bv) (by rw [h1]; simp) hnews (by omega) (by omega)
      (by rw [hy]; exact growslice_fits (by omega) (by omega))
    have hge := grownCap_ge w (l.length + s.length) cap e
    have hcm := grownCap_le_maxLen w (l.length + s.length) cap e hml
    refine ⟨_, _, hr, ⟨w.heap.size, grownCap w (l.length + s.length) cap e, _, (0, 0), by simp, hbase, heap_alloc_new w.drew _, .inl (Nat.le_refl _), by simpa using hge, hcm, ?_, ?_⟩, ⟨rfl, rfl, rfl, by simp, fun k hk _ => heap_alloc_old w.drew _ hk⟩⟩
    · have hz1 : (Value.int IntKind.u8 0).cells.size = 1 := rfl
      simp only [Array.size_append, List.size_toArray, size_zeroCells, hz1, List.length_map]
      omega
    · simp only [Array.toList_append, List.map_append]
      exact List.take_left' (by simp)
/-- 'append(b, l...)', for the walk. -/
theorem wpList_append_markS {P : Program} {w : World} {ops : Array Oper} {rest : List Oper} {o : Oper} {a : Act} {Q : Exit → Act → World → Prop} (hgd : o.guard = none) (sl x : Operand) (t : TypeId)
    (ho : o.op = .call { callee := .builtin .append, args := #[sl, x], argTypes := #[t, t] }) (base : Nat) (e : TypeId) (i : TypeInfo) (ht : P.underlying t = some (.slice e))
    (hi : P.info? e = some i) (hz : i.zero = some (.int .u8 0)) (h1 : i.size = 1) (hy : i.bytes = 1) (v : Value) (l s : List UInt8) (hv : a.eval sl = v) (h : MarkRow w base e v l) (ad : Addr) (m c : Nat) (hx : a.eval x = .slice (some ad) m c) (hm : s.length = m)
    (hnews : ∀ j u, (s.map bv)[j]? = some u → w.cell? (ad.add j) = some u) (hs : l.length + s.length ≤ 140737488355328) (hbase : base ≤ w.heap.size)
    (k : ∀ v' w', MarkRow w' base e v' (l ++ s) → w.grownBy w' v.ownBlock → wpList P ops Q rest (a.put o.dst v') w') : wpList P ops Q (o :: rest) a w := by
  obtain ⟨v', w', hr, h2, h3⟩ := h.appendedS t o.type i ht hi hz h1 hy s ad m c hm hnews hs hbase
  refine wpList_plain hgd fun K hK => ?_
  unfold Oper.wp execOp
  simp only [ho, resolve, invoke, builtin, Sem.run_bind, Sem.run_pure, Result.andThen_ok, List.map_toArray, List.map_cons, List.map_nil, hv, hx, hr]
  exact hK _ _ (k v' w' h2 h3)
end Go.Proofs.YtkkiedmcpibnaaaDoor
