/- A vertex that came in; the document's example. -/
import Derived.Test.YtmhohnffaffdfaaVtxRSame2
import Derived.Test.YtmhohnffaffdfaaOpenTxs2
import Derived.Test.YtmhohnffaffdfaaOpenRows
namespace Go.Proofs.Ytmhohnffaffdfaa
open Go.RowKit Go.ChangeShapes Go.WideShapes Go.ChangeAt
set_option maxRecDepth 100000

section
variable {H : Type} {enc : TypeId × Value → H} {W : World}
/-- A batch in its cells. -/
def BatIn (W : World) (b : Bt.Bat) (cs : List Value) (d : DataW H) : Prop := ∃ u, cs = [.int .i64 b.1, .int .i64 b.2.1, u] ∧ TxAt W u b.2.2 ∧ ((DataW.weights Try.prog 53 d).all (· ≤ reachBytes) = true → b.2.2.length ≤ 8796093021952)
theorem elem_bat (n : Nat) (cs : List Value) (x : DataW H × List MemPlace) (hl : cs.length = 3) (h : DataW.trod enc Try.prog W 0 (fun _ => true) true n 53 cs = some x) : ∃ b, BatIn W b cs x.1 := by
  obtain ⟨xs, m, _, rfl, _, hlen, hf⟩ := DataW.trod_struct Try.underlying53 h
  have k1 : Try.prog.cellsOf 3 = 1 := by kernel_rfl
  have k2 : Try.prog.cellsOf 24 = 1 := by kernel_rfl
  match cs, hl, xs, hlen with
  | [a, b, c], _, [y0, y1, y2], _ =>
    have h0 := hf 0 _ rfl
    have h1 := hf 1 _ rfl
    have h2 := hf 2 _ rfl
    obtain ⟨i, _, _, rfl, _⟩ := trod_i64 (v := a) (y := y0) Try.underlying3 (by simpa [k1] using h0)
    obtain ⟨j, _, _, rfl, _⟩ := trod_i64 (v := b) (y := y1) Try.underlying3 (by simpa [k1] using h1)
    have h2' : DataW.trod enc Try.prog W 0 (fun _ => true) true m 24 [c] = some y2 := by simpa [k2] using h2
    obtain ⟨ls, hv, _⟩ := trod_txsD Try.underlying24 h2'
    refine ⟨(i, j, ls), c, rfl, hv, fun hs => ?_⟩
    have hs2 : (DataW.weights Try.prog 24 y2.1).all (· ≤ reachBytes) = true := by
      simp only [List.map_cons, List.map_nil, DataW.weights, Try.underlying53] at hs
      exact sized_at hs (j := 2) rfl rfl
    obtain ⟨ls', hv', hl', _⟩ := trod_txsR Try.underlying24 h2' hs2
    obtain ⟨a1, c1, e1⟩ := hv.len
    obtain ⟨a2, c2, e2⟩ := hv'.len
    rw [e1] at e2
    injection e2 with _ e3 _
    simp only []
    omega
theorem bts_of {w : World} {b : Nat} : ∀ (l : List Bt.Bat) (off : Nat), (∀ k (h : k < l.length), ∃ u, w.cell? ⟨b, off + k * 3, none⟩ = some (.int .i64 l[k].1) ∧ w.cell? ⟨b, off + k * 3 + 1, none⟩ = some (.int .i64 l[k].2.1) ∧ w.cell? ⟨b, off + k * 3 + 2, none⟩ = some u ∧ TxAt w u l[k].2.2) →
    ∃ cs : List Value, cs.length = l.length * 3 ∧ (∀ i (h : i < cs.length), w.cell? ⟨b, off + i, none⟩ = some cs[i]) ∧ BtsM w.heap.size w.heap.size w cs l
  | [], _, _ => ⟨[], rfl, fun i h => absurd h (by simp), trivial⟩
  | x :: l, off, h => by
    obtain ⟨u, h0, h1, h2, ht⟩ := h 0 (by simp)
    obtain ⟨cs, hl, hc, hb⟩ := bts_of l (off + 3) (fun k hk => by
      obtain ⟨u, g0, g1, g2, gt⟩ := h (k + 1) (by simp; omega)
      refine ⟨u, ?_, ?_, ?_, ?_⟩
      · rw [show off + 3 + k * 3 = off + (k + 1) * 3 by omega]; exact g0
      · rw [show off + 3 + k * 3 + 1 = off + (k + 1) * 3 + 1 by omega]; exact g1
      · rw [show off + 3 + k * 3 + 2 = off + (k + 1) * 3 + 2 by omega]; exact g2
      · exact gt)
    refine ⟨.int .i64 x.1 :: .int .i64 x.2.1 :: u :: cs, by simp [hl]; omega, fun i hi => ?_, rfl, rfl, TxM.of ht, hb⟩
    match i, hi with
    | 0, _ => simpa using h0
    | 1, _ => simpa using h1
    | 2, _ => simpa using h2
    | i + 3, hi =>
      have := hc i (by simpa using hi)
      rw [show off + (i + 3) = off + 3 + i by omega, this]
      rfl
theorem trod_bats {n : Nat} {v : Value} {y : DataW H × List MemPlace} (h : DataW.trod enc Try.prog W 0 (fun _ => true) true n 23 [v] = some y) (hsz : (DataW.weights Try.prog 23 y.1).all (· ≤ reachBytes) = true) :
    ∃ l, BtsAt W v l ∧ l.length ≤ 8796093021952 ∧ Vt.Small l := by
  rcases open_rows (K := 3) (fun (a : Bt.Bat) cs (d : DataW H) => BatIn W a cs d) Try.underlying23 (by kernel_rfl) (by decide) elem_bat h with ⟨rfl, _⟩ | ⟨ad, cap, l, D, sp, rfl, h1, h2, hs, hy, hD, hc⟩
  · exact ⟨[], ⟨[], .inl ⟨none, _, rfl, rfl⟩, trivial⟩, by simp, fun b hb => by cases hb⟩
  · rw [hy] at hsz
    have hlen := open_len (B := 40) Try.underlying23 (by kernel_rfl) hsz
    refine ⟨l, ?_, by omega, fun b hbl => ?_⟩
    · by_cases h0 : l.length = 0
      · obtain rfl : l = [] := List.length_eq_zero_iff.1 h0
        exact ⟨[], .inl ⟨some ad, _, rfl, rfl⟩, trivial⟩
      · obtain ⟨b, off, spot⟩ := ad
        obtain rfl : spot = none := hs (by omega)
        have ha : ∀ j, (⟨b, off, none⟩ : Addr).add j = ⟨b, off + j, none⟩ := fun j => by unfold Addr.add; split <;> simp_all
        obtain ⟨cs, e1, e2, e3⟩ := bts_of (b := b) l off (fun k hk => by
          obtain ⟨cs, _, ⟨u, rfl, ht, _⟩, hcell⟩ := hc k hk (by rw [hD]; exact hk)
          have c0 := hcell 0 _ rfl
          have c1 := hcell 1 _ rfl
          have c2 := hcell 2 _ rfl
          rw [ha] at c0 c1 c2
          exact ⟨u, c0, c1, c2, ht⟩)
        exact ⟨cs, .inr ⟨b, off, l.length, cap, rfl, e1, e2⟩, e3⟩
    · obtain ⟨k, hk, rfl⟩ := List.getElem_of_mem hbl
      obtain ⟨cs, _, ⟨u, _, _, q1⟩, _⟩ := hc k hk (by rw [hD]; exact hk)
      have hw : (DataW.weights Try.prog 53 D[k]).all (· ≤ reachBytes) = true := by
        refine List.all_eq_true.2 fun m hm => ?_
        simp only [DataW.weights, Try.underlying23, List.all_cons, List.all_append, Bool.and_eq_true] at hsz
        exact List.all_eq_true.1 hsz.2.1 m (weights_in (List.getElem_mem (show k < D.length by rw [hD]; exact hk)) hm)
      have := q1 hw
      omega
/-- A vertex in its cells. -/
theorem elem_vtx (n : Nat) (cs : List Value) (x : DataW H × List MemPlace) (hl : cs.length = 6) (h : DataW.trod enc Try.prog W 0 (fun _ => true) true n 28 cs = some x) (hsz : (DataW.weights Try.prog 28 x.1).all (· ≤ reachBytes) = true) :
    ∃ (v : Vt.Vtx) (bv pv : Value), cs = [.int .i64 v.1, .int .i64 v.2.1, bv, pv, .int .i64 v.2.2.2.2.1, .int .i64 v.2.2.2.2.2] ∧ BtsAt W bv v.2.2.1 ∧ TxAt W pv v.2.2.2.1 ∧ v.2.2.1.length ≤ 8796093021952 ∧ Vt.Small v.2.2.1 ∧ v.2.2.2.1.length ≤ 8796093021952 := by
  obtain ⟨xs, m, _, rfl, _, hlen, hf⟩ := DataW.trod_struct Try.underlying28 h
  have k1 : Try.prog.cellsOf 3 = 1 := by kernel_rfl
  have k2 : Try.prog.cellsOf 24 = 1 := by kernel_rfl
  have k3 : Try.prog.cellsOf 23 = 1 := by kernel_rfl
  have k4 : Try.prog.cellsOf 26 = 2 := by kernel_rfl
  match cs, hl, xs, hlen with
  | [a, b, c, d, e, f], _, [y0, y1, y2, y3, y4], _ =>
    have h0 := hf 0 _ rfl
    have h1 := hf 1 _ rfl
    have h2 := hf 2 _ rfl
    have h3 := hf 3 _ rfl
    have h4 := hf 4 _ rfl
    obtain ⟨i, _, _, rfl, _⟩ := trod_i64 (v := a) (y := y0) Try.underlying3 (by simpa [k1] using h0)
    obtain ⟨j, _, _, rfl, _⟩ := trod_i64 (v := b) (y := y1) Try.underlying3 (by simpa [k1] using h1)
    simp only [List.map_cons, List.map_nil, DataW.weights, Try.underlying28] at hsz
    have s2 : (DataW.weights Try.prog 23 y2.1).all (· ≤ reachBytes) = true := sized_at hsz (j := 2) rfl rfl
    have s3 : (DataW.weights Try.prog 24 y3.1).all (· ≤ reachBytes) = true := sized_at hsz (j := 3) rfl rfl
    obtain ⟨bs, hb, lb, hs⟩ := trod_bats (v := c) (y := y2) (by simpa [k3] using h2) s2
    obtain ⟨ps, hp, lp, _⟩ := trod_txsR (v := d) (y := y3) Try.underlying24 (by simpa [k2] using h3) s3
    obtain ⟨zs, _, _, rfl, _, hzl, hzf⟩ := DataW.trod_struct Try.underlying26 (show DataW.trod enc Try.prog W 0 (fun _ => true) true m 26 [e, f] = some y4 by simpa [k4] using h4)
    match zs, hzl with
    | [z0, z1], _ =>
      have g0 := hzf 0 _ rfl
      have g1 := hzf 1 _ rfl
      obtain ⟨x0, _, _, rfl, _⟩ := trod_i64 (v := e) (y := z0) Try.underlying3 (by simpa [k1] using g0)
      obtain ⟨x1, _, _, rfl, _⟩ := trod_i64 (v := f) (y := z1) Try.underlying3 (by simpa [k1] using g1)
      exact ⟨(i, j, bs, ps, x0, x1), c, d, rfl, hb, hp, lb, hs, lp⟩
theorem open_vtx {base : Nat} {v : Value} {d : DataW H} {p : List MemPlace} (o : Value.okWide Try.prog W .any base 28 v) (h : DataW.Trod enc Try.prog W 0 (fun _ => true) true 28 v d p) (hsz : (DataW.weights Try.prog 28 d).all (· ≤ reachBytes) = true) :
    ∃ (u : Vt.Vtx) (bv pv : Value), v = vtxV u.1 u.2.1 bv pv u.2.2.2.2.1 u.2.2.2.2.2 ∧ BtsAt W bv u.2.2.1 ∧ TxAt W pv u.2.2.2.1 ∧ u.2.2.1.length ≤ 8796093021952 ∧ Vt.Small u.2.2.1 ∧ u.2.2.2.1.length ≤ 8796093021952 := by
  obtain ⟨cs, rfl, hs⟩ := okWide_struct Try.underlying28 o
  obtain ⟨n, hn⟩ := h
  have hC : Try.prog.cellsOf 28 = 6 := by kernel_rfl
  obtain ⟨u, bv, pv, e, r⟩ := elem_vtx n cs.toList (d, p) (by simpa using hs.trans hC) (by simpa [Value.cells] using hn) hsz
  refine ⟨u, bv, pv, ?_, r⟩
  obtain ⟨l⟩ := cs
  simp only at e
  rw [e]
end
end Go.Proofs.Ytmhohnffaffdfaa
