/- CutChains; opening blocks that came in. -/
import Derived.Test.YtldhkgelifmipaaDoorCutChainP
import Derived.Test.YtldhkgelifmipaaDoorCutShown
import Derived.Test.YtldhkgelifmipaaDoorCutOpen
import Derived.Test.YtldhkgelifmipaaDoorOpenRows
namespace Go.Proofs.YtldhkgelifmipaaDoor
open Go.RowKit Go.ChangeShapes Go.WideShapes Go.ChangeAt

theorem bulk_pos {H : Type} (d : DataW H) : 1 ≤ Rows.uptoBulk d := by
  cases d with
  | lit l => cases l <;> simp [Rows.uptoBulk]
  | _ => simp [Rows.uptoBulk]
theorem bulk_mem {H : Type} (D : List (DataW H)) : D.length ≤ Rows.uptoBulkAll D ∧ ∀ d ∈ D, Rows.uptoBulk d ≤ Rows.uptoBulkAll D := by
  induction D with
  | nil => exact ⟨by simp, fun d h => by cases h⟩
  | cons x D ih =>
    have := bulk_pos x
    simp only [Rows.uptoBulkAll, List.length_cons]
    refine ⟨by omega, fun d h => ?_⟩
    rcases List.mem_cons.1 h with rfl | h
    · omega
    · have := ih.2 d h
      omega
/-- A block that came in. -/
def BlkIn {H : Type} (W : World) (a : Ct.Blk) (cs : List Value) (d : DataW H) : Prop := ∃ u, cs = [iv a.1, tx a.2.1, u] ∧ TxAt W u a.2.2 ∧ a.1 ≤ 9223372036854775807 ∧ Dg.sizes a.2.2 ≤ Rows.uptoBulk d ∧ a.2.1.length ≤ Rows.uptoBulk d
theorem elem_block {H : Type} {enc : TypeId × Value → H} {W : World} (n : Nat) (cs : List Value) (x : DataW H × List MemPlace) (hl : cs.length = 3) (h : DataW.trod enc Tryd.prog W 0 (fun _ => true) true n 25 cs = some x) :
    ∃ a : Ct.Blk, BlkIn W a cs x.1 := by
  obtain ⟨y0, y1, y2, m, hx, _, h0, h1, h2⟩ := Go.Deep.trod_struct3 Tryd.underlying25 h
  have k1 : Tryd.prog.cellsOf 3 = 1 := by kernel_rfl
  have k2 : Tryd.prog.cellsOf 9 = 1 := by kernel_rfl
  have k3 : Tryd.prog.cellsOf 22 = 1 := by kernel_rfl
  match cs, hl with
  | [a, b, c], _ =>
    obtain ⟨a', _, ha, rfl, e0⟩ := trod_i64 (v := a) Tryd.underlying3 (by simpa [k1] using h0)
    obtain ⟨b', rfl, e1⟩ := trod_tx (v := b) Tryd.underlying9 (by simpa [k1, k2] using h1)
    obtain ⟨ls, hv, hb⟩ := trod_txs (v := c) (y := y2) Tryd.underlying22 (by simpa [k1, k2, k3] using h2)
    subst e0 e1
    refine ⟨(a', b', ls), c, rfl, hv, ha, ?_, ?_⟩
    · rw [hx]
      simp only [Rows.uptoBulk, Rows.uptoBulkAll]
      omega
    · rw [hx]
      simp only [Rows.uptoBulk, Rows.uptoBulkAll]
      omega
theorem blks_of {W : World} {b : Nat} (l : List Ct.Blk) (off : Nat) (h : ∀ k (hk : k < l.length), ∃ u, W.cell? ⟨b, off + k * 3, none⟩ = some (iv l[k].1) ∧ W.cell? ⟨b, off + k * 3 + 1, none⟩ = some (tx l[k].2.1) ∧ W.cell? ⟨b, off + k * 3 + 2, none⟩ = some u ∧ TxAt W u l[k].2.2) :
    ∃ cs : List Value, cs.length = l.length * 3 ∧ (∀ i (hi : i < cs.length), W.cell? ⟨b, off + i, none⟩ = some cs[i]) ∧ BlksM W.heap.size W.heap.size W cs l := by
  induction l generalizing off with
  | nil => exact ⟨[], rfl, fun i hi => absurd hi (by simp), trivial⟩
  | cons x l ih =>
    obtain ⟨u, h0, h1, h2, h3⟩ := h 0 (by simp)
    obtain ⟨cs, e1, e2, e3⟩ := ih (off + 3) (fun k hk => by
      obtain ⟨u, g0, g1, g2, g3⟩ := h (k + 1) (by simpa using hk)
      refine ⟨u, ?_, ?_, ?_, g3⟩
      · rw [show off + 3 + k * 3 = off + (k + 1) * 3 by omega]; exact g0
      · rw [show off + 3 + k * 3 + 1 = off + (k + 1) * 3 + 1 by omega]; exact g1
      · rw [show off + 3 + k * 3 + 2 = off + (k + 1) * 3 + 2 by omega]; exact g2)
    refine ⟨iv x.1 :: tx x.2.1 :: u :: cs, by simp only [List.length_cons]; omega, fun i hi => ?_, rfl, rfl, TxM.of h3, e3⟩
    match i, hi with
    | 0, _ => simpa using h0
    | 1, _ => simpa using h1
    | 2, _ => simpa using h2
    | i + 3, hi =>
      have := e2 i (by simpa using hi)
      rw [show off + (i + 3) = off + 3 + i by omega, this]
      rfl
theorem trod_blocks {H : Type} {enc : TypeId × Value → H} {W : World} {n : Nat} {v : Value} {y : DataW H × List MemPlace} (h : DataW.trod enc Tryd.prog W 0 (fun _ => true) true n 29 [v] = some y) (hb : Rows.uptoBulk y.1 ≤ 1048576) :
    ∃ l, BlkCap W v l ∧ BlkFit l := by
  rcases open_rows (K := 3) (fun (a : Ct.Blk) cs (d : DataW H) => BlkIn W a cs d) Tryd.underlying29 (by kernel_rfl) (by decide) elem_block h with ⟨rfl, _⟩ | ⟨ad, cap, l, D, sp, rfl, h1, h2, hs, hy, hD, hc⟩
  · exact ⟨[], ⟨⟨[], .inl ⟨none, _, rfl, rfl⟩, trivial⟩, _, _, rfl, Nat.le_refl _⟩, by simp, fun b hb => by cases hb⟩
  · rw [hy] at hb
    simp only [Rows.uptoBulk] at hb
    obtain ⟨hbl, hbm⟩ := bulk_mem D
    refine ⟨l, ?_, by omega, fun b hbl => ?_⟩
    · by_cases h0 : l.length = 0
      · obtain rfl : l = [] := List.length_eq_zero_iff.1 h0
        exact ⟨⟨[], .inl ⟨some ad, _, rfl, rfl⟩, trivial⟩, _, _, rfl, Nat.zero_le _⟩
      · obtain ⟨b, off, spot⟩ := ad
        obtain rfl : spot = none := hs (by omega)
        have ha : ∀ j, (⟨b, off, none⟩ : Addr).add j = ⟨b, off + j, none⟩ := fun j => by unfold Addr.add; split <;> simp_all
        obtain ⟨cs, e1, e2, e3⟩ := blks_of (b := b) l off (fun k hk => by
          obtain ⟨cs, _, ⟨u, rfl, ht, _, _, _⟩, hcell⟩ := hc k hk (by rw [hD]; exact hk)
          have c0 := hcell 0 _ rfl
          have c1 := hcell 1 _ rfl
          have c2 := hcell 2 _ rfl
          rw [ha] at c0 c1 c2
          exact ⟨u, c0, c1, c2, ht⟩)
        exact ⟨⟨cs, .inr ⟨b, off, l.length, cap, rfl, e1, e2⟩, e3⟩, _, _, rfl, h1⟩
    · obtain ⟨k, hk, rfl⟩ := List.getElem_of_mem hbl
      obtain ⟨cs, _, ⟨u, _, _, q1, q2, q3⟩, _⟩ := hc k hk (by rw [hD]; exact hk)
      have := hbm D[k] (List.getElem_mem _)
      exact ⟨fit_of (by omega) (by omega), q1⟩

set_option maxHeartbeats 4000000 in
theorem cutChains_core (bs : List Ct.Blk) (va : Value) (n : Int) (p : List UInt8) (w : World) (ha : BlkCap w va bs) (hf : BlkFit bs) (hw : GW w) :
    Calls Tryd.prog 4 #[va, iv n, tx p] w fun e w' => e = .returned (.bool true) ∧ Below w.heap.size w w' := by
  have HP := Lib.hid (fun W (hb : Below w.heap.size w W) => pcchained va bs n p W (ha.below hb) hf (hw.below hb))
  have HR := Lib.hid (fun W (hb : Below w.heap.size w W) => rcchained va bs n p W (ha.below hb).1 hf)
  obtain ⟨r, hr⟩ : ∃ r, Ct.chained Ct.dig Ct.nxt bs n p = r := ⟨_, rfl⟩
  simp only [hr, iv] at HP HR
  have HS := Lib.hid (cshown w hw)
  obtain ⟨aa, ca, rfl⟩ := ha.1.len
  clear ha hf hw hr
  simp only [iv]
  go_enter Tryd.func4, Tryd.ntmps4
  go_wp2_with fail
  refine HS.out.mono ?_
  rintro e w1 ⟨rfl, h1⟩
  go_wp2_with fail
  refine (HP.out _ h1).mono ?_
  rintro e w2 ⟨rfl, h2⟩
  have h12 := grow_trans h1 h2
  go_wp2_with fail
  refine (HR.out _ h12).mono ?_
  rintro e w3 ⟨rfl, h3⟩
  have hend := grow_trans h12 h3
  clear h1 h2 h12 h3 HP HR HS
  go_wp2_with fail
  go_ret
  exact ⟨rfl, hend⟩

theorem cutChains_walk {H : Type} (enc : TypeId × Value → H) (W : World) (base : Nat) (v0 : Value) (v1 : Value) (v2 : Value) (d0 : DataW H) (d1 : DataW H) (d2 : DataW H) (p0 : List MemPlace) (p1 : List MemPlace) (p2 : List MemPlace)
    (h0 : DataW.Trod enc Tryd.prog W 0 (fun _ => true) true 29 v0 d0 p0) (o0 : Value.okWide Tryd.prog W .any base 29 v0)
    (h1 : DataW.Trod enc Tryd.prog W 0 (fun _ => true) true 3 v1 d1 p1) (o1 : Value.okWide Tryd.prog W .any base 3 v1)
    (h2 : DataW.Trod enc Tryd.prog W 0 (fun _ => true) true 9 v2 d2 p2) (o2 : Value.okWide Tryd.prog W .any base 9 v2)
    (_hsz : (DataW.weightsEach Tryd.prog [29, 3, 9] [d0, d1, d2]).all (· ≤ reachBytes) = true) (hk : Rows.uptoSmall H [d0, d1, d2] = true) (hg : GW W) :
    Calls Tryd.prog 4 #[v0, v1, v2] W fun e W' => e = .returned (.bool true) ∧ Below W.heap.size W W' := by
  have hb : Rows.uptoBulkAll [d0, d1, d2] ≤ 1048576 := of_decide_eq_true hk
  simp only [Rows.uptoBulkAll] at hb
  obtain ⟨a0, l0, c0, rfl⟩ := okWide_slice Tryd.underlying29 o0
  obtain ⟨f0, h0⟩ := h0
  obtain ⟨l, hl, hf⟩ := trod_blocks (y := (d0, p0)) h0 (by show Rows.uptoBulk d0 ≤ _; omega)
  obtain ⟨n, rfl⟩ := okWide_int Tryd.underlying3 o1
  obtain ⟨p, rfl⟩ := okWide_string Tryd.underlying9 o2
  exact cutChains_core l _ n p.data.toList W hl hf hg
end Go.Proofs.YtldhkgelifmipaaDoor
