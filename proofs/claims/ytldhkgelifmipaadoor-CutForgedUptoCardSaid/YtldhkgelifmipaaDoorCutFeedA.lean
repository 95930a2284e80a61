/- Feed, as the program has it. (Written by gen-cutfeed.py.) -/
import Derived.Test.YtldhkgelifmipaaDoorCutFlushR
import Derived.Test.YtldhkgelifmipaaDoorOpenTxs
namespace Ct
theorem sizes_app (a b : List Tx) : Dg.sizes (a ++ b) = Dg.sizes a + Dg.sizes b := by
  induction a with
  | nil => simp [Dg.sizes]
  | cons t a ih => rw [List.cons_append, Dg.sizes, ih, Dg.sizes]; omega
theorem sizes_take (l : List Tx) (k : Nat) (h : k < l.length) : Dg.sizes (l.take (k + 1)) = Dg.sizes (l.take k) + (l[k].length + 1) := by
  rw [List.take_succ_eq_append_getElem h, sizes_app]; simp [Dg.sizes]
theorem sizes_le_take (l : List Tx) (k : Nat) : Dg.sizes (l.take k) ≤ Dg.sizes l := by
  have := sizes_app (l.take k) (l.drop k)
  rw [List.take_append_drop] at this
  omega
theorem total_sizes (l : List Tx) : total l ≤ Dg.sizes l := by
  induction l with
  | nil => simp [total, Dg.sizes]
  | cons t l ih => rw [total_cons, Dg.sizes]; omega
theorem sum_len (s : List UInt8) : (Sh.sum s).length = 32 := by
  obtain ⟨a, b, c, d, e, f, g, k, h⟩ := Sh.eight _ (Sh.after_len (Sh.pad s) ((Sh.pad s).length / 64))
  rw [Sh.sum, h]
  rfl
theorem nxt_le (n : Int) : nxt n ≤ 9223372036854775807 := by unfold nxt Go.IntKind.wrap; simp [Go.IntKind.signed, Go.IntKind.bits]; omega
theorem feed_fit (c : Blk) (l : List Tx) (hp : c.2.1.length ≤ 1073741824) (hn : c.1 ≤ 9223372036854775807) (k : Nat) (hk : k ≤ l.length) :
    Dg.sizes (feed dig nxt c (l.take k)).1.2.2 ≤ Dg.sizes c.2.2 + Dg.sizes (l.take k) ∧ (feed dig nxt c (l.take k)).1.2.1.length ≤ 1073741824 ∧ (feed dig nxt c (l.take k)).1.1 ≤ 9223372036854775807 := by
  induction k with
  | zero => exact ⟨by simp [feed, Dg.sizes], hp, hn⟩
  | succ k ih =>
    obtain ⟨h1, h2, h3⟩ := ih (by omega)
    rw [feed_step dig nxt c l k (by omega), step, sizes_take l k (by omega)]
    split
    · refine ⟨?_, h2, h3⟩
      rw [sizes_app]
      simp [Dg.sizes]
      omega
    · refine ⟨?_, ?_, nxt_le _⟩
      · simp [Dg.sizes]; omega
      · show (dig _).length ≤ _
        rw [dig, sum_len]
        decide
end Ct
namespace Go.Proofs.YtldhkgelifmipaaDoor
open Go.RowKit

theorem fit_of {c : Ct.Blk} (h : Dg.sizes c.2.2 ≤ 400000000) (hp : c.2.1.length ≤ 1073741824) : CutFit c := by
  have h1 := Dg.sizes_len c.2.2
  have h2 := Dg.texts_sizes c.2.2
  exact ⟨hp, by omega, by omega⟩
theorem info_blk : (Tryd.prog.info? 25).map (fun i => (i.zero, i.size, i.bytes)) = some (some (.agg #[.int .i64 0, .string ⟨#[]⟩, .slice none 0 0]), 3, 48) := by kernel_rfl
theorem row_not {w : World} {B n k : Nat} {t : TypeId} {v : Value} {cs : List Value} (h : w.ownsRow B t k v n cs) {g : Nat} {t' : TypeId} {cur : Array Value} {fz : Nat × Nat} (hg : w.heap[g]? = some (.cells cur t' fz)) (hne : t' ≠ t) : some g ≠ v.ownBlock := by
  intro e
  rcases h.2 with ⟨rfl, _⟩ | ⟨g', cap, cur', rfl, _, hh, _⟩
  · simp [Value.ownBlock] at e
  · have : g = g' := Option.some.inj e
    subst this
    rw [hg] at hh
    injection hh with hh
    injection hh with _ hh _
    exact hne hh
theorem Stays.row {B B' M n k : Nat} {t : TypeId} {w w' : World} {v : Value} {cs : List Value} (h : w.ownsRow B' t k v n cs) (hBB : B ≤ B') (hg : w.grownBy w' v.ownBlock) (hM : M ≤ w.heap.size) (ht : 9 ≠ t) : Stays B M w w' := by
  intro i hi hty
  refine hg.block i (by omega) (fun e => ?_)
  rcases hty with hB | ⟨cur, fz, hh⟩
  · rcases h.2 with ⟨rfl, _⟩ | ⟨g', cap, cur', rfl, hb, _⟩
    · simp [Value.ownBlock] at e
    · have : i = g' := Option.some.inj e
      omega
  · exact row_not h hh ht e
theorem Stays.box {B M C : Nat} {w : World} {a b c : Value} {t : TypeId} (h : KBox w C t a b c) (hC : B ≤ C) (ht : t ≠ 9) (i : Nat) (x : Value) : Stays B M w (w.setCell ⟨C, i, none⟩ x) := by
  intro k _ hty
  refine Below.heap_setCell w ⟨C, i, none⟩ x k (fun e => ?_)
  have e : k = C := e
  rcases hty with hB | ⟨cur, fz, hh⟩
  · omega
  · subst e
    have hk : w.heap[k]? = _ := h
    rw [hh] at hk
    injection hk with hk
    injection hk with _ hk _
    exact ht hk.symm
theorem own_box {B n k C : Nat} {t t' : TypeId} {w : World} {v a b c : Value} {cs : List Value} (h : w.ownsRow B t k v n cs) (hb : KBox w C t' a b c) (hne : t' ≠ t) (i : Nat) (x : Value) : (w.setCell ⟨C, i, none⟩ x).ownsRow B t k v n cs := by
  have hn := row_not h hb hne
  obtain ⟨h1, h2⟩ := h
  refine ⟨h1, ?_⟩
  rcases h2 with h2 | ⟨g, cap, cur, hv, hg, hh, r⟩
  · exact .inl h2
  · have hgC : g ≠ C := fun e => hn (by rw [hv, e]; rfl)
    exact .inr ⟨g, cap, cur, hv, hg, by rw [Below.heap_setCell w ⟨C, i, none⟩ x g hgC]; exact hh, r⟩
theorem own_keep {w w' : World} {B k n : Nat} {t : TypeId} {v : Value} {cs : List Value} (h : w.ownsRow B t k v n cs) (hb : Below w.heap.size w w') : w'.ownsRow B t k v n cs := own_below h hb (fun g hg => (h.lt g hg).2)

/-- Where Feed stands: the cutter in box C, the answer's cells R, the blocks that were cut; all but what waits lies below M. -/
structure CF (B : Nat) (w wr : World) (C R : Nat) (c : Ct.Blk) (out : List Ct.Blk) (uT bv : Value) (M : Nat) : Prop where
  kc : KBox wr C 24 (.int .i64 c.1) (tx c.2.1) uT
  kr : ∃ a b d, KBox wr R 24 a b d
  own : wr.ownsRow M 9 1 uT c.2.2.length (c.2.2.map tx)
  bs : ∃ cs, wr.ownsRow w.heap.size 25 3 bv out.length cs ∧ BlksM B M wr cs out
  bm : ∀ k, bv.ownBlock = some k → k < M
  le : C < M ∧ R < M ∧ w.heap.size ≤ C ∧ w.heap.size ≤ R ∧ C ≠ R ∧ M ≤ wr.heap.size
  b : Below w.heap.size w wr
theorem CF.keep {B : Nat} {w wr w' : World} {C R : Nat} {c : Ct.Blk} {out : List Ct.Blk} {uT bv : Value} {M : Nat} (h : CF B w wr C R c out uT bv M) (hb : Below wr.heap.size wr w') : CF B w w' C R c out uT bv M := by
  obtain ⟨l1, l2, l3, l4, l5, l6⟩ := h.le
  obtain ⟨a, b, d, hr⟩ := h.kr
  obtain ⟨cs, h1, h2⟩ := h.bs
  exact ⟨h.kc.kept hb, ⟨a, b, d, hr.kept hb⟩, own_keep h.own hb, ⟨cs, own_keep h1 hb, h2.keep (Stays.of (hb.mono l6))⟩, h.bm, ⟨l1, l2, l3, l4, l5, by have := hb.size; omega⟩, grow_trans h.b hb⟩
/-- One transaction more waits. -/
theorem CF.more {B : Nat} {w wr w4 : World} {C R : Nat} {c : Ct.Blk} {out : List Ct.Blk} {uT bv v4 : Value} {M : Nat} {t : List UInt8} {o : Obj} (h : CF B w wr C R c out uT bv M) (hB : B ≤ w.heap.size)
    (hown : w4.ownsRow M 9 1 v4 (c.2.2.length + 1) (c.2.2.map tx ++ [tx t])) (hg : (wr.alloc o).grownBy w4 uT.ownBlock) :
    CF B w (w4.setCell ⟨C, 2, none⟩ v4) C R (c.1, c.2.1, c.2.2 ++ [t]) out v4 bv M := by
  obtain ⟨l1, l2, l3, l4, l5, l6⟩ := h.le
  obtain ⟨a, b, d, hr⟩ := h.kr
  obtain ⟨cs, h1, h2⟩ := h.bs
  have hbM : Below M wr w4 := ((Below.refl _ _).alloc l6 o).grown hg (by simp; omega) (fun k hk => (h.own.lt k hk).1)
  have kc4 : KBox w4 C 24 (.int .i64 c.1) (tx c.2.1) uT := h.kc.below hbM l1
  have kr4 : KBox w4 R 24 a b d := hr.below hbM l2
  refine ⟨kc4.set2 v4, ⟨a, b, d, kr4.other (Ne.symm l5) _ _⟩, ?_, ⟨cs, own_box (own_below h1 hbM h.bm) kc4 (by decide) _ _, (h2.keep (Stays.of hbM)).keep (Stays.box kc4 (by omega) (by decide) _ _)⟩, h.bm, ⟨l1, l2, l3, l4, l5, ?_⟩, ?_⟩
  · have h3 := ownsRow_setCell_below hown (a := ⟨C, 2, none⟩) l1 v4
    simpa using h3
  · have := hbM.size
    simp only [World.setCell, Array.size_modify]
    omega
  · exact below_set (h.b.trans (hbM.mono (by omega))) l3 _ _

theorem kbox_row {W : World} {g : Nat} {t : TypeId} {a b c : Value} (h : KBox W g t a b c) : ∀ j u, [a, b, c][j]? = some u → W.cell? ((⟨g, 0, none⟩ : Addr).add j) = some u := by
  intro j u hj
  obtain ⟨h0, h1, h2⟩ := h.cells
  have ha : (⟨g, 0, none⟩ : Addr).add j = ⟨g, j, none⟩ := by unfold Addr.add; split <;> simp_all
  rw [ha]
  match j, hj with
  | 0, hj => rw [h0]; simpa using hj
  | 1, hj => rw [h1]; simpa using hj
  | 2, hj => rw [h2]; simpa using hj
theorem kbox_one {n : Int} {p : List UInt8} (uc : Value) (h : uc.oneCell' = true) : ∀ u ∈ [Value.int .i64 n, tx p, uc], u.oneCell' = true := by
  intro u hu
  simp only [List.mem_cons, List.not_mem_nil, or_false] at hu
  rcases hu with rfl | rfl | rfl
  · rfl
  · rfl
  · exact h
theorem one_tx {w : World} {v : Value} {ls : List (List UInt8)} (h : TxAt w v ls) : v.oneCell' = true := by
  obtain ⟨a, cap, rfl⟩ := h.len
  rfl
/-- What Flush cut is put behind the blocks; what waits is nothing. -/
theorem CF.cut {B : Nat} {w w4 w7 : World} {C R : Nat} {n : Int} {p : List UInt8} {ls : List (List UInt8)} {out : List Ct.Blk} {uT bv uc v7 : Value} {M : Nat} {n' : Int} {d : List UInt8} {cs : List Value} (h : CF B w w4 C R (n, p, ls) out uT bv M) (hcs : BlksM B M w4 cs out)
    (ht : TxM B w4.heap.size w4 uc ls) (st : Stays B w4.heap.size w4 w7) (kc : KBox w7 C 24 (.int .i64 n') (tx d) (.slice none 0 0)) (kr : ∃ a b e, KBox w7 R 24 a b e) (row : w7.ownsRow w.heap.size 25 3 v7 (out.length + 1) (cs ++ [.int .i64 n, tx p, uc])) (hb : Below w.heap.size w w7) (hs : w4.heap.size ≤ w7.heap.size) :
    CF B w w7 C R (n', d, []) (out ++ [(n, p, ls)]) (.slice none 0 0) v7 w7.heap.size := by
  obtain ⟨l1, l2, l3, l4, l5, l6⟩ := h.le
  refine ⟨kc, kr, World.ownsRow_nil _ _ _ _, ⟨_, by rw [List.length_append]; exact row, ?_⟩, fun k hk => (row.lt k hk).2, ⟨by omega, by omega, l3, l4, l5, Nat.le_refl _⟩, hb⟩
  refine BlksM.app (ds := [.int .i64 n, tx p, uc]) (ys := [(n, p, ls)]) ⟨rfl, rfl, (ht.keep st).mono (Nat.le_refl _) hs, trivial⟩ ?_
  exact (hcs.keep (st.mono l6)).mono (Nat.le_refl _) (by omega)
end Go.Proofs.YtldhkgelifmipaaDoor
