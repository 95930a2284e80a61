/- CutForged. -/
import Derived.Test.YtldhkgelifmipaaDoorCutRunP
import Derived.Test.YtldhkgelifmipaaDoorCutChainP
namespace Ct
theorem chained_fit (bs : List Blk) : ∀ (n : Int) (p : Tx), chained dig nxt bs n p = true → n ≤ 9223372036854775807 → p.length ≤ 1073741824 → ∀ b ∈ bs, b.1 ≤ 9223372036854775807 ∧ b.2.1.length ≤ 1073741824 := by
  induction bs with
  | nil => intro n p _ _ _ b hb; cases hb
  | cons x bs ih =>
    intro n p h hn hp b hb
    rw [chained, Bool.and_eq_true, Bool.and_eq_true, decide_eq_true_iff, decide_eq_true_iff] at h
    obtain ⟨⟨h1, h2⟩, h3⟩ := h
    rcases List.mem_cons.1 hb with rfl | hb
    · exact ⟨by omega, by rw [h2]; exact hp⟩
    · refine ih _ _ h3 (nxt_le _) ?_ b hb
      rw [dig, sum_len]
      decide
theorem sizes_memS (bs : List Blk) (b : Blk) (h : b ∈ bs) : Dg.sizes b.2.2 ≤ Dg.sizes (texts bs) := by
  induction bs with
  | nil => cases h
  | cons x bs ih =>
    have e : texts (x :: bs) = x.2.2 ++ texts bs := by simp [texts]
    rw [e, sizes_app]
    rcases List.mem_cons.1 h with rfl | h
    · omega
    · have := ih h
      omega
theorem sizes_flat (l : List Stp) : Dg.sizes (l.flatMap (·.1)) = stepSizes l := by
  induction l with
  | nil => simp [stepSizes, Dg.sizes]
  | cons s l ih => rw [List.flatMap_cons, sizes_app, stepSizes_cons, ih]
theorem runs_one (txs : List Tx) : (runs dig nxt [(txs, true)]).2 = (feed dig nxt (0, [], []) txs).2 ++ (flush dig nxt (feed dig nxt (0, [], []) txs).1).2 := by
  simp [runs, rstep]
theorem sizes_one (txs : List Tx) : stepSizes [(txs, true)] = Dg.sizes txs := by simp [stepSizes]
theorem sizes_snoc (tk : List Tx) (x : Tx) : Dg.sizes (tk ++ [x]) = Dg.sizes tk + (x.length + 1) := by
  rw [sizes_app]
  simp [Dg.sizes]
end Ct
namespace Go.Proofs.YtldhkgelifmipaaDoor
open Go.RowKit Go.ChangeShapes Go.WideShapes Go.ChangeAt

theorem runs_blkfit (l : List Ct.Stp) (hs : Ct.stepSizes l ≤ 4194304) (hl : l.length ≤ 40) : BlkFit (Ct.runs Ct.dig Ct.nxt l).2 := by
  have h1 := Ct.runs_len l l.length (Nat.le_refl _)
  rw [List.take_length] at h1
  refine ⟨by omega, fun b hb => ?_⟩
  obtain ⟨e1, e2⟩ := Ct.chained_fit _ _ _ (Ct.runs_well Ct.dig Ct.nxt l).inv.chain (by omega) (by simp) b hb
  have e3 := Ct.sizes_memS _ b hb
  have e4 := congrArg Dg.sizes (Ct.runs_texts Ct.dig Ct.nxt l)
  rw [Ct.sizes_app, Ct.sizes_flat] at e4
  exact ⟨fit_of (by omega) e2, e1⟩

section
variable {P : Program} {w : World} {ops : Array Oper} {rest : List Oper} {o : Oper} {a : Act} {Q : Exit → Act → World → Prop}
theorem append_noneC (hgd : o.guard = none) (s x : Operand) (t : TypeId)
    (ho : o.op = .call { callee := .builtin .append, args := #[s, x], argTypes := #[t, t] })
    (base : Nat) (e : TypeId) (i : TypeInfo) (size : Nat) (ht : P.underlying t = some (.slice e)) (hi : P.info? e = some i)
    (v : Value) (n : Nat) (xs : List Value) (hs : a.eval s = v) (hown : w.ownsRow base e size v n xs) (c : Nat) (hx : a.eval x = .slice none 0 c)
    (h : wpList P ops Q rest (a.put o.dst v) w) : wpList P ops Q (o :: rest) a w := by
  refine wpList_plain hgd fun K hK => ?_
  have hrun : (Builtin.append_ #[t, t] o.type #[v, .slice none 0 c]).run P w = .ok v w := by
    rcases hown.2 with ⟨rfl, rfl⟩ | ⟨g, cap, cur, rfl, _, _, hnc, _⟩
    · simp [Builtin.append_, run_underlying ht, sizeOf, typeInfo, hi, Builtin.lenOf, Builtin.firstCells]
    · simp [Builtin.append_, run_underlying ht, sizeOf, typeInfo, hi, Builtin.lenOf, Builtin.firstCells, hnc, storeCells]
  unfold Oper.wp
  simp [execOp, ho, resolve, invoke, builtin, hs, hx, hrun, Result.andThen]
  exact hK _ _ h
/-- Texts are put behind a row of the call's own, wherever they lie. -/
theorem append_tx (hgd : o.guard = none) (s x : Operand) (t : TypeId)
    (ho : o.op = .call { callee := .builtin .append, args := #[s, x], argTypes := #[t, t] })
    (base : Nat) (e : TypeId) (i : TypeInfo) (z : Value) (ht : P.underlying t = some (.slice e)) (hi : P.info? e = some i) (hz : i.zero = some z)
    (hsize : i.size = 1) (hby : i.bytes = 16) (hzs : z.cells.size = 1)
    (v : Value) (n : Nat) (xs : List Value) (hs : a.eval s = v) (hown : w.ownsRow base e 1 v n xs)
    (xv : Value) (ls : List (List UInt8)) (hx : a.eval x = xv) (hT : TxAt w xv ls)
    (h63 : n + ls.length ≤ maxLen) (hbytes : (n + ls.length) * 16 ≤ 140737488355328) (hbase : base ≤ w.heap.size)
    (h : ∀ v' w', w'.ownsRow base e 1 v' (n + ls.length) (xs ++ ls.map tx) → w.grownBy w' v.ownBlock → wpList P ops Q rest (a.put o.dst v') w') : wpList P ops Q (o :: rest) a w := by
  rcases hT with ⟨p, c, hv, rfl⟩ | ⟨b, off, c, hv, hc⟩
  · cases p with
    | none => exact append_noneC hgd s x t ho base e i 1 ht hi v n xs hs hown c (hx.trans hv) (h v w (by simpa using hown) ⟨rfl, rfl, rfl, Nat.le_refl _, fun _ _ _ => rfl⟩)
    | some ad => exact wpList_append_own w hgd s x t ho base e i z 1 16 ht hi hz hsize hby hzs (by decide) v n xs hs hown ad 0 c [] (hx.trans hv) (by simp) (fun j u hj => by simp at hj) (fun u hu => by cases hu) h63 hbytes hbase fun v' w' h2 h3 _ => h v' w' (by simpa using h2) h3
  · exact wpList_append_own w hgd s x t ho base e i z 1 16 ht hi hz hsize hby hzs (by decide) v n xs hs hown ⟨b, off, none⟩ ls.length c (ls.map tx) (hx.trans hv) (by simp) (txs_row hc) (txs_one ls) h63 hbytes hbase fun v' w' h2 h3 _ => h v' w' h2 h3
end

theorem pcflush_any (c : Ct.Blk) (u : Value) (w : World) (hu : TxAt w u c.2.2) (hf : CutFit c) (h63 : c.1 ≤ 9223372036854775807) (hw : GW w) :
    Calls Tryd.prog 13 #[blkV c u] w fun e w' => ∃ (n : Int) (p : List UInt8) (bv : Value) (cs : List Value), e = .returned (.tuple #[.agg #[iv n, tx p, .slice none 0 0], bv]) ∧ Src w' bv (Ct.flush Ct.dig Ct.nxt c).2.length cs ∧ BlksM 0 w'.heap.size w' cs (Ct.flush Ct.dig Ct.nxt c).2 ∧ Below w.heap.size w w' := by
  by_cases h0 : c.2.2 = []
  · obtain ⟨n, p, ls⟩ := c
    simp only at h0
    subst h0
    obtain ⟨a, cap, rfl⟩ := hu.len
    refine (pcflush_nil n p a cap w).mono ?_
    rintro e w' ⟨rfl, hb⟩
    exact ⟨n, p, .slice none 0 0, [], rfl, .inl ⟨rfl, by simp [Ct.flush]⟩, by simp [Ct.flush, BlksM], hb⟩
  · refine (pcflush c u w hu hf h63 h0 hw).mono ?_
    rintro e w' ⟨g, uc, rfl, hk, ht, hty, hb⟩
    have ef : (Ct.flush Ct.dig Ct.nxt c).2 = [c] := by rw [Ct.flush, if_neg h0]
    obtain ⟨k0, k1, k2⟩ := hk.cells
    refine ⟨_, _, _, [iv c.1, tx c.2.1, uc], rfl, .inr ⟨⟨g, 0, none⟩, 1, by rw [ef]; rfl, fun j u hj => ?_⟩, ?_, hb⟩
    · have ha : (⟨g, 0, none⟩ : Addr).add j = ⟨g, j, none⟩ := by unfold Addr.add; split <;> simp_all
      rw [ha]
      match j, hj with
      | 0, hj => injection hj with e; subst e; exact k0
      | 1, hj => injection hj with e; subst e; exact k1
      | 2, hj => injection hj with e; subst e; exact k2
      | j + 3, hj => simp at hj
    · rw [ef]
      exact ⟨rfl, rfl, TxM.ofT ht hty, trivial⟩
theorem own_cap {w : World} {B : Nat} {t : TypeId} {v : Value} {cs : List Value} {bs : List Ct.Blk} {n : Nat} (h : w.ownsRow B t 3 v n cs) (hn : n = bs.length) (hb : BlksM w.heap.size w.heap.size w cs bs) : BlkCap w v bs := by
  subst hn
  refine ⟨⟨cs, FlatAt.own h, hb⟩, ?_⟩
  rcases h.2 with ⟨rfl, h0⟩ | ⟨g, cap, cur, rfl, _, _, hc, _⟩
  · exact ⟨none, 0, by rw [h0], by omega⟩
  · exact ⟨_, _, rfl, hc⟩
theorem row_grown {w w' : World} {B k n : Nat} {t : TypeId} {v : Value} {cs : List Value} {x : Option Nat} (h : w.ownsRow B t k v n cs) (hg : w.grownBy w' x) (hx : ∀ g, v.ownBlock = some g → some g ≠ x) : w'.ownsRow B t k v n cs := by
  have hlt := h.lt
  obtain ⟨h1, h2⟩ := h
  refine ⟨h1, ?_⟩
  rcases h2 with h2 | ⟨g, cap, cur, rfl, hB, hh, r⟩
  · exact .inl h2
  · exact .inr ⟨g, cap, cur, rfl, hB, by rw [hg.block g (hlt g rfl).2 (hx g rfl)]; exact hh, r⟩
theorem BlksM.set {B M : Nat} {w : World} {u : Value} {ls : List (List UInt8)} (ht : TxM B M w u ls) : ∀ {cs : List Value} {bs : List Ct.Blk}, BlksM B M w cs bs → ∀ k (h : k < bs.length), BlksM B M w (cs.set (k * 3 + 2) u) (bs.set k (bs[k].1, bs[k].2.1, ls))
  | [], [], _, k, h => absurd h (by simp)
  | _ :: _ :: _ :: _, _ :: _, h, 0, _ => ⟨h.1, h.2.1, ht, h.2.2.2⟩
  | _ :: _ :: _ :: _, _ :: _, h, k + 1, hk => by
    rw [show (k + 1) * 3 + 2 = k * 3 + 2 + 1 + 1 + 1 by omega]
    exact ⟨h.1, h.2.1, h.2.2.1, BlksM.set ht h.2.2.2 k (by simpa using hk)⟩
theorem BlksM.drop {B M : Nat} {w : World} : ∀ {cs : List Value} {bs : List Ct.Blk}, BlksM B M w cs bs → ∀ k, BlksM B M w (cs.drop (k * 3)) (bs.drop k)
  | [], [], _, k => by simp [BlksM]
  | _ :: _ :: _ :: _, _ :: _, h, 0 => by simpa using h
  | _ :: _ :: _ :: _, _ :: _, h, k + 1 => by
    rw [show (k + 1) * 3 = k * 3 + 1 + 1 + 1 by omega]
    simp only [List.drop_succ_cons]
    exact BlksM.drop h.2.2.2 k
/-- A block of an own row: its three cells. -/
theorem own_blk {w : World} {B g cap n M N : Nat} {t : TypeId} {cs : List Value} {bs : List Ct.Blk} (h : w.ownsRow B t 3 (.slice (some ⟨g, 0, none⟩) n cap) n cs) (hb : BlksM M N w cs bs) (k : Nat) (hk : k < bs.length) :
    ∃ u, w.cell? ⟨g, k * 3, none⟩ = some (iv bs[k].1) ∧ w.cell? ⟨g, k * 3 + 1, none⟩ = some (tx bs[k].2.1) ∧ w.cell? ⟨g, k * 3 + 2, none⟩ = some u ∧ TxM M N w u bs[k].2.2 := by
  obtain ⟨u, h1, h2, h3, h4⟩ := hb.get k hk
  have ha : ∀ j, (⟨g, 0, none⟩ : Addr).add j = ⟨g, j, none⟩ := fun j => by unfold Addr.add; split <;> simp_all
  have hc := h.cells (g := g) rfl
  have g1 := hc _ _ h1
  have g2 := hc _ _ h2
  have g3 := hc _ _ h3
  rw [ha] at g1 g2 g3
  exact ⟨u, g1, g2, g3, h4⟩
theorem own_free {w : World} {B g cap n : Nat} {t : TypeId} {k : Nat} {cs : List Value} (h : w.ownsRow B t k (.slice (some ⟨g, 0, none⟩) n cap) n cs) (j : Nat) : w.frozen? ⟨g, j, none⟩ = false := by
  rcases h.2 with ⟨h', _⟩ | ⟨g', cap', cur, h', _, hg, _⟩
  · simp at h'
  · simp only [Value.slice.injEq, Option.some.injEq, Addr.mk.injEq, and_true, true_and] at h'
    obtain ⟨rfl, rfl⟩ := h'
    simp [World.frozen?, hg]
/-- A copy of a row of blocks: where it lies, one block's cells. -/
theorem row_prep {w : World} {B n : Nat} {t : TypeId} {v : Value} {cs : List Value} {L : List Ct.Blk} {M N : Nat} (h : w.ownsRow B t 3 v n cs) (hn : n = L.length) (hb : BlksM M N w cs L) (k : Nat) (hk : k < L.length) :
    ∃ g cap u, v = .slice (some ⟨g, 0, none⟩) L.length cap ∧ L.length ≤ cap ∧ B ≤ g ∧ g < w.heap.size ∧ w.cell? ⟨g, k * 3, none⟩ = some (.int .i64 L[k].1) ∧ w.cell? ⟨g, k * 3 + 1, none⟩ = some (tx L[k].2.1) ∧ w.cell? ⟨g, k * 3 + 2, none⟩ = some u ∧ TxAt w u L[k].2.2 := by
  subst hn
  have hlt := h.lt
  have h' := h
  rcases h'.2 with ⟨rfl, h0⟩ | ⟨g, cap, cur, rfl, _, _, hc, _⟩
  · omega
  · obtain ⟨u, g1, g2, g3, g4⟩ := own_blk h hb k hk
    exact ⟨g, cap, u, rfl, hc, (hlt g rfl).1, (hlt g rfl).2, g1, g2, g3, g4.at⟩
theorem src_front {w : World} {g n cap k : Nat} {cs : List Value} (h : Src w (.slice (some ⟨g, 0, none⟩) n cap) n cs) (c' : Nat) : Src w (.slice (some ⟨g, 0, none⟩) k c') k (cs.take (k * 3)) := by
  rcases h with ⟨h, _⟩ | ⟨ad, c, e, hc⟩
  · cases h
  · cases e
    exact .inr ⟨_, _, rfl, fun j u hj => hc j u (by rw [List.getElem?_take] at hj; split at hj <;> simp_all)⟩
theorem src_back {w : World} {g n cap k m : Nat} {cs : List Value} (h : Src w (.slice (some ⟨g, 0, none⟩) n cap) n cs) (c' : Nat) : Src w (.slice (some ⟨g, k * 3, none⟩) m c') m (cs.drop (k * 3)) := by
  rcases h with ⟨h, _⟩ | ⟨ad, c, e, hc⟩
  · cases h
  · cases e
    refine .inr ⟨_, _, rfl, fun j u hj => ?_⟩
    rw [List.getElem?_drop] at hj
    have := hc _ u hj
    have ha : ∀ b i, (⟨g, b, none⟩ : Addr).add i = ⟨g, b + i, none⟩ := fun b i => by unfold Addr.add; split <;> simp_all
    rw [ha, Nat.zero_add] at this
    rw [ha]
    exact this

theorem lit_x (w : World) : TxAt (w.alloc (.cells #[.string ⟨#[120]⟩] 9)) (.slice (some ⟨w.heap.size, 0, none⟩) 1 1) [[120]] := .inr ⟨w.heap.size, 0, 1, rfl, fun i hi => by
  obtain rfl : i = 0 := by simpa using hi
  simp⟩

theorem row_cell {w : World} {B g cap n M N : Nat} {t : TypeId} {cs : List Value} {bs : List Ct.Blk} (h : w.ownsRow B t 3 (.slice (some ⟨g, 0, none⟩) n cap) n cs) (hb : BlksM M N w cs bs) (k : Nat) (hk : k < bs.length) : ∃ u, w.cell? ⟨g, k * 3 + 2, none⟩ = some u := by
  obtain ⟨u, _, _, h3, _⟩ := own_blk h hb k hk
  exact ⟨u, h3⟩

theorem Src.len {w : World} {v : Value} {m : Nat} {cs : List Value} (h : Src w v m cs) : ∃ a c, v = .slice a m c := by
  rcases h with ⟨rfl, rfl⟩ | ⟨ad, c, rfl, _⟩
  · exact ⟨_, _, rfl⟩
  · exact ⟨_, _, rfl⟩
theorem own_txs {w : World} {B : Nat} {v : Value} {n : Nat} {cs : List Value} {tk tb : List (List UInt8)} (h : w.ownsRow B 9 1 v n cs) (hn : n = 0 + tk.length + [[(120 : UInt8)]].length) (hc : cs = [] ++ List.map tx tk ++ List.map tx [[120]]) (hb : tk ++ [[120]] = tb) : w.ownsRow B 9 1 v tb.length (tb.map tx) ∧ ∃ a c, v = .slice a tb.length c := by
  have e : w.ownsRow B 9 1 v tb.length (tb.map tx) := by
    rw [← hb]
    subst hn hc
    simpa using h
  exact ⟨e, (Src.own e).len⟩

theorem BlksM.takeF {B M : Nat} {w : World} : ∀ {cs : List Value} {bs : List Ct.Blk}, BlksM B M w cs bs → ∀ k, BlksM B M w (cs.take (k * 3)) (bs.take k)
  | [], [], _, k => by simp [BlksM]
  | _ :: _ :: _ :: _, _ :: _, _, 0 => by simp [BlksM]
  | _ :: _ :: _ :: _, _ :: _, h, k + 1 => by
    rw [show (k + 1) * 3 = k * 3 + 1 + 1 + 1 by omega]
    simp only [List.take_succ_cons]
    exact ⟨h.1, h.2.1, h.2.2.1, BlksM.takeF h.2.2.2 k⟩
theorem set_blk {w : World} {B g cap n M N : Nat} {t : TypeId} {V : Value} {cs : List Value} {bs : List Ct.Blk} (k : Nat) (h : w.ownsRow B t 3 (.slice (some ⟨g, 0, none⟩) n cap) n (cs.set (k * 3 + 2) V)) (hb : BlksM M N w cs bs) (hk : k < bs.length) :
    w.cell? ⟨g, k * 3, none⟩ = some (.int .i64 bs[k].1) ∧ w.cell? ⟨g, k * 3 + 1, none⟩ = some (tx bs[k].2.1) ∧ w.cell? ⟨g, k * 3 + 2, none⟩ = some V := by
  obtain ⟨u, h1, h2, h3, _⟩ := hb.get k hk
  have ha : ∀ j, (⟨g, 0, none⟩ : Addr).add j = ⟨g, j, none⟩ := fun j => by unfold Addr.add; split <;> simp_all
  have hc := h.cells (g := g) rfl
  have hl : k * 3 + 2 < cs.length := by have := hb.len; omega
  have g1 := hc (k * 3) (iv bs[k].1) (by rw [List.getElem?_set_ne (by omega)]; exact h1)
  have g2 := hc (k * 3 + 1) (tx bs[k].2.1) (by rw [List.getElem?_set_ne (by omega)]; exact h2)
  have g3 := hc (k * 3 + 2) V (by rw [List.getElem?_set_self hl])
  rw [ha] at g1 g2 g3
  exact ⟨g1, g2, g3⟩

set_option maxHeartbeats 16000000 in
set_option maxRecDepth 100000 in
theorem cutForged_core (txs : List (List UInt8)) (v : Value) (x : Int) (w : World) (hv : TxAt w v txs) (hsz : Dg.sizes txs ≤ 1048576) (hx : -9223372036854775808 ≤ x ∧ x ≤ 9223372036854775807) (hw : GW w) :
    Calls Tryd.prog 9 #[v, .int .i64 x] w fun e w' => e = .returned (.bool true) ∧ Below w.heap.size w w' := by
  obtain ⟨i0, hi, hz0, hz1, hz2⟩ := info_parts info_txt
  obtain ⟨i1, gi, gz0, gz1, gz2⟩ := info_parts info_blk
  obtain ⟨av, cv, rfl⟩ := hv.len
  have hlt0 := Dg.sizes_len txs
  have HV := Lib.hid hv
  have HW := Lib.hid hw
  clear hv hw
  by_cases h100 : 100 < txs.length
  · clear hsz hlt0
    go_enter Tryd.func9, Tryd.ntmps9
    go_wp2_with fail
    refine (cshown _ HW.out).mono ?_
    rintro e w1 ⟨rfl, h1⟩
    have HB1 := Lib.hid h1
    clear h1
    go_wp2_with fail
    go_ret
    exact ⟨rfl, HB1.out⟩
  · have hone := Ct.runs_one txs
    have hfit := runs_blkfit [(txs, true)] (by rw [Ct.sizes_one]; omega) (by simp)
    have hch := (Ct.runs_well Ct.dig Ct.nxt [(txs, true)]).inv.chain
    have htx := Ct.runs_texts Ct.dig Ct.nxt [(txs, true)]
    have hln := Ct.runs_len [(txs, true)] 1 (by simp)
    rw [show [(txs, true)].take 1 = [(txs, true)] from rfl, Ct.sizes_one] at hln
    obtain ⟨s1, s2, s3⟩ := Ct.feed_fit (0, [], []) txs (by simp) (by simp) txs.length (Nat.le_refl _)
    rw [List.take_length] at s1 s2 s3
    have e0 : Dg.sizes ((0, [], []) : Ct.Blk).2.2 = 0 := rfl
    rw [e0] at s1
    have HFD := Lib.hid (fun (W : World) (hv : TxAt W (.slice av txs.length cv) txs) hG => pcfeed (0, [], []) txs (.slice none 0 0) (.slice av txs.length cv) W (.inl ⟨_, _, rfl, rfl⟩) hv (by show Dg.sizes [] + _ ≤ _; simp only [Dg.sizes]; omega) (by show 0 ≤ 1073741824; omega) (by show (0 : Int) ≤ _; omega) hG)
    have HSZ := Lib.hid (show ∀ b ∈ (Ct.runs Ct.dig Ct.nxt [(txs, true)]).2, Dg.sizes b.2.2 ≤ 1048576 from fun b hb => by
      have e3 := Ct.sizes_memS _ b hb
      have e4 := congrArg Dg.sizes htx
      rw [Ct.sizes_app, Ct.sizes_flat, Ct.sizes_one] at e4
      omega)
    rw [hone] at hfit hch HSZ hln
    obtain ⟨n, p, ls, out, hX⟩ : ∃ n p ls out, Ct.feed Ct.dig Ct.nxt (0, [], []) txs = ((n, p, ls), out) := ⟨_, _, _, _, rfl⟩
    rw [hX] at hfit hch HSZ hln s1 s2 s3 HFD
    simp only at s1 s2 s3
    have HFL := Lib.hid (fun (u : Value) (W : World) (hu : TxAt W u ls) hG => pcflush_any (n, p, ls) u W hu (fit_of (by show Dg.sizes ls ≤ _; omega) s2) s3 hG)
    simp only at hfit hch HSZ hln HFD
    obtain ⟨fo, hfo⟩ : ∃ fo, (Ct.flush Ct.dig Ct.nxt (n, p, ls)).2 = fo := ⟨_, rfl⟩
    rw [hfo] at hfit hch HSZ hln HFL
    obtain ⟨L, hL⟩ : ∃ L, out ++ fo = L := ⟨_, rfl⟩
    have hLn : out.length + fo.length = L.length := by rw [← hL, List.length_append]
    rw [hL] at hfit hch HSZ hln
    have hl0 : L.length ≤ 1048577 := by omega
    have HFT := Lib.hid hfit
    have HCH := Lib.hid (show Ct.chained Ct.dig Ct.nxt L 0 [] = true from hch)
    have HLL := Lib.hid hL
    simp only [blkV, iv] at HFD HFL
    clear hone hfit hch htx hln s1 s2 s3 e0 hX hfo hL hsz
    go_enter Tryd.func9, Tryd.ntmps9
    go_wp2_with fail
    refine (cshown _ HW.out).mono ?_
    rintro e w1 ⟨rfl, h1⟩
    have HB1 := Lib.hid h1
    clear h1
    go_wp2_with fail
    refine (HFD.out _ (HV.out.below HB1.out) (HW.out.below HB1.out)).mono ?_
    rintro e w2 ⟨uT, bv, cs1, rfl, hu, hr1, hb1, h2⟩
    obtain ⟨au, cu, rfl⟩ := hu.len
    have HB2 := Lib.hid (grow_trans HB1.out h2)
    have HU := Lib.hid hu
    have HR1 := Lib.hid hr1
    have HK1 := Lib.hid hb1
    clear hu hr1 hb1 h2 HFD
    obtain ⟨wPa, hwPa⟩ : ∃ x, World.alloc w2 (.cells #[.int .i64 0, .string ⟨#[]⟩, .slice none 0 0] 24) = x := ⟨_, rfl⟩
    obtain ⟨Ha, hHa⟩ : ∃ x, (World.heap w2).size = x := ⟨_, rfl⟩
    have hPa : Below (World.heap w2).size w2 wPa := by rw [← hwPa]; exact (Below.refl _ _).alloc (Nat.le_refl _) _
    have kPa : KBox wPa Ha 24 (.int .i64 0) (.string ⟨#[]⟩) (.slice none 0 0) := by rw [← hwPa, ← hHa]; exact KBox.new _ _ _ _ _
    obtain ⟨p0a, p1a, p2a⟩ := kPa.cells
    obtain ⟨f0a, f1a, f2a⟩ := kPa.free
    obtain ⟨wQa, hwQa⟩ : ∃ x, World.setCell (World.setCell (World.setCell wPa ⟨Ha, 0, none⟩ (.int .i64 n)) ⟨Ha, 1, none⟩ (tx p)) ⟨Ha, 2, none⟩ (.slice au ls.length cu) = x := ⟨_, rfl⟩
    have hbQa : Below (World.heap w2).size w2 wQa := by rw [← hwQa]; exact below_set3 hPa (by omega) _ _ _
    have kQa : KBox wQa Ha 24 (.int .i64 n) (tx p) (.slice au ls.length cu) := by rw [← hwQa]; exact kPa.set _ _ _
    obtain ⟨q0a, q1a, q2a⟩ := kQa.cells
    have HBa := Lib.hid hbQa
    clear kPa hPa hbQa kQa
    have HBA := Lib.hid (grow_trans HB2.out HBa.out)
    go_wp2_with fail
    refine (HFL.out _ _ (HU.out.below HBa.out) (HW.out.below HBA.out)).mono ?_
    rintro e w3 ⟨n2, p2, bv2, cs2, rfl, hr2, hb2, h3⟩
    have HB3 := Lib.hid (grow_trans HBA.out h3)
    have HB23 := Lib.hid (grow_trans HBa.out h3)
    have HR2 := Lib.hid hr2
    have HK2 := Lib.hid hb2
    clear hr2 hb2 h3 HFL p0a p1a p2a f0a f1a f2a q0a q1a q2a hwPa hwQa hHa
    obtain ⟨wPb, hwPb⟩ : ∃ x, World.alloc w3 (.cells #[.int .i64 0, .string ⟨#[]⟩, .slice none 0 0] 24) = x := ⟨_, rfl⟩
    obtain ⟨Hb, hHb⟩ : ∃ x, (World.heap w3).size = x := ⟨_, rfl⟩
    have hPb : Below (World.heap w3).size w3 wPb := by rw [← hwPb]; exact (Below.refl _ _).alloc (Nat.le_refl _) _
    have kPb : KBox wPb Hb 24 (.int .i64 0) (.string ⟨#[]⟩) (.slice none 0 0) := by rw [← hwPb, ← hHb]; exact KBox.new _ _ _ _ _
    obtain ⟨p0b, p1b, p2b⟩ := kPb.cells
    obtain ⟨f0b, f1b, f2b⟩ := kPb.free
    obtain ⟨wQb, hwQb⟩ : ∃ x, World.setCell (World.setCell (World.setCell wPb ⟨Hb, 0, none⟩ (.int .i64 n2)) ⟨Hb, 1, none⟩ (tx p2)) ⟨Hb, 2, none⟩ (.slice none 0 0) = x := ⟨_, rfl⟩
    have hbQb : Below (World.heap w3).size w3 wQb := by rw [← hwQb]; exact below_set3 hPb (by omega) _ _ _
    have kQb : KBox wQb Hb 24 (.int .i64 n2) (tx p2) (.slice none 0 0) := by rw [← hwQb]; exact kPb.set _ _ _
    obtain ⟨q0b, q1b, q2b⟩ := kQb.cells
    have HBb := Lib.hid hbQb
    clear kPb hPb hbQb kQb
    have HBB := Lib.hid (grow_trans HB3.out HBb.out)
    have HB2b := Lib.hid (grow_trans HB23.out HBb.out)
    have HL0 := Lib.hid (World.ownsRow_lit (base := wQb.heap.size) (e := 25) (size := 3) wQb #[] 0 (Nat.le_refl _) (by decide) rfl)
    have HS1 := Lib.hid ((Src.own HR1.out).below (HB2b.out.alloc HB2b.out.size (.cells #[] 25)))
    have LC1 := HK1.out.len
    have LC2 := HK2.out.len
    go_wp2_with (first
      | (at_builtin; refine append_src rfl _ _ 29 rfl wQb.heap.size 25 i1 (.agg #[.int .i64 0, .string ⟨#[]⟩, .slice none 0 0]) 3 48 Tryd.underlying29 gi gz0 gz1 gz2 rfl (by decide) _ 0 [] rfl HL0.out _ out.length cs1 rfl LC1 HS1.out HK1.out.one (by unfold maxLen; omega) (by omega) (by simp) ?_; intro v5 w5 hown5 hg5; have HO5 := Lib.hid hown5; have HB5 := Lib.hid (((Below.refl wQb.heap.size wQb).alloc (Nat.le_refl _) (.cells #[] 25)).grown hg5 (by simp) (fun k hk => (HL0.out.lt k hk).1)); have HS2 := Lib.hid (HR2.out.below (grow_trans HBb.out HB5.out)); clear hown5 hg5)
      | (at_builtin; refine append_src rfl _ _ 29 rfl wQb.heap.size 25 i1 (.agg #[.int .i64 0, .string ⟨#[]⟩, .slice none 0 0]) 3 48 Tryd.underlying29 gi gz0 gz1 gz2 rfl (by decide) _ _ _ rfl HO5.out _ fo.length cs2 rfl LC2 HS2.out HK2.out.one (by unfold maxLen; omega) (by omega) HB5.out.size ?_; intro v6 w6 hown6 hg6; have HO6 := Lib.hid hown6; have HB6 := Lib.hid (HB5.out.grown hg6 HB5.out.size (fun k hk => (HO5.out.lt k hk).1)); clear hown6 hg6))
    have HB06 := Lib.hid (grow_trans HBB.out HB6.out)
    have HB36 := Lib.hid (grow_trans HBb.out HB6.out)
    have HB26 := Lib.hid (grow_trans HB2b.out HB6.out)
    have hkl : BlksM w6.heap.size w6.heap.size w6 (cs1 ++ cs2) L := by
      rw [← HLL.out]
      exact BlksM.app (HK2.out.later HB36.out) (HK1.out.later HB26.out)
    have hol : w6.ownsRow wQb.heap.size 25 3 v6 L.length (cs1 ++ cs2) := by
      rw [← hLn]
      simpa using HO6.out
    obtain ⟨csL, hcsL⟩ : ∃ c, cs1 ++ cs2 = c := ⟨_, rfl⟩
    rw [hcsL] at hkl hol
    have HKL := Lib.hid hkl
    have HOL := Lib.hid hol
    have hcap := own_cap hol rfl hkl
    obtain ⟨a6, c6, rfl, hc6⟩ := hcap.2
    have HPC := Lib.hid (pcchained _ L 0 [] w6 hcap HFT.out (HW.out.below HB06.out))
    rw [HCH.out] at HPC
    clear hkl hol hcap HO5 HO6 HS1 HS2 HL0 HB5 p0b p1b p2b f0b f1b f2b q0b q1b q2b hwPb hwQb hHb LC1 LC2 HR1 HR2 HK1 HK2 hcsL
    go_wp2_with fail
    refine HPC.out.mono ?_
    rintro e w7 ⟨rfl, h7⟩
    have HB67 := Lib.hid h7
    have HB7 := Lib.hid (grow_trans HB06.out h7)
    clear h7 HPC
    have hwl : IntKind.i64.wrap ((L.length : Int) - 1) = (L.length : Int) - 1 := IntWalk.i64_in _ ⟨by omega, by omega⟩
    by_cases hx0 : x < 0
    · have t1 : decide (x < 0) = true := by rw [decide_eq_true_iff]; omega
      go_wp2_with fail
      go_ret
      exact ⟨rfl, HB7.out⟩
    · have t1 : decide (x < 0) = false := by rw [decide_eq_false_iff_not]; omega
      by_cases hx1 : (L.length : Int) - 1 ≤ x
      · have t2 : decide ((L.length : Int) - 1 ≤ x) = true := by rw [decide_eq_true_iff]; omega
        go_wp2_with fail
        go_ret
        exact ⟨rfl, HB7.out⟩
      · have t2 : decide ((L.length : Int) - 1 ≤ x) = false := by rw [decide_eq_false_iff_not]; omega
        obtain ⟨k, rfl⟩ : ∃ k : Nat, x = (k : Int) := ⟨x.toNat, by omega⟩
        have hk : k + 1 < L.length := by omega
        obtain ⟨g6, rfl⟩ : ∃ g, a6 = some ⟨g, 0, none⟩ := by
          rcases HOL.out.2 with ⟨h, h0⟩ | ⟨g, cap, cur, h, _⟩
          · omega
          · injection h with h
            exact ⟨g, h⟩
        obtain ⟨nk, pk, tk, hLk⟩ : ∃ n p t, L[k]'(by omega) = (n, p, t) := ⟨_, _, _, rfl⟩
        have hszk := HSZ.out L[k] (List.getElem_mem _)
        rw [hLk] at hszk
        simp only at hszk
        have htkl := Dg.sizes_len tk
        have hwk : IntKind.i64.wrap ((k : Int) + 1) = ((k + 1 : Nat) : Int) := by
          rw [IntWalk.i64_in _ ⟨by omega, by omega⟩]
          omega
        obtain ⟨tb, htb⟩ : ∃ b, tk ++ [[120]] = b := ⟨_, rfl⟩
        have hs67 := HB67.out.size
        have hcl := HKL.out.len
        have LT1 : (csL.take (k * 3)).length = k * 3 := by rw [List.length_take]; omega
        have LT2 : (csL.drop ((k + 1) * 3)).length = (L.length - (k + 1)) * 3 := by rw [List.length_drop]; omega
        have ONE1 : ∀ u ∈ csL.take (k * 3), u.oneCell' = true := fun u hu => HKL.out.one u (List.mem_of_mem_take hu)
        have ONE2 : ∀ u ∈ csL.drop ((k + 1) * 3), u.oneCell' = true := fun u hu => HKL.out.one u (List.mem_of_mem_drop hu)
        have j1 : (k : Int) < (L.length : Int) := by omega
        have j2 : (0 : Int) ≤ (k : Int) := by omega
        have j3 : (k : Int).toNat = k := by omega
        have HL1 := Lib.hid (World.ownsRow_lit (base := w7.heap.size) (e := 25) (size := 3) w7 #[] 0 (Nat.le_refl _) (by decide) rfl)
        have HS6 := Lib.hid ((Src.own HOL.out).below (HB67.out.alloc HB67.out.size (.cells #[] 25)))
        go_wp2_with (first
          | (at_builtin; refine append_src rfl _ _ 29 rfl w7.heap.size 25 i1 (.agg #[.int .i64 0, .string ⟨#[]⟩, .slice none 0 0]) 3 48 Tryd.underlying29 gi gz0 gz1 gz2 rfl (by decide) _ 0 [] rfl HL1.out _ L.length csL rfl HKL.out.len HS6.out HKL.out.one (by unfold maxLen; omega) (by omega) (by simp) ?_; intro v8 w8 hown8 hg8; have HO8 := Lib.hid (show w8.ownsRow w7.heap.size 25 3 v8 L.length csL from by simpa using hown8); have HB8 := Lib.hid (((Below.refl w7.heap.size w7).alloc (Nat.le_refl _) (.cells #[] 25)).grown hg8 (by simp) (fun k hk => (HL1.out.lt k hk).1)); have HB68 := Lib.hid (grow_trans HB67.out HB8.out); obtain ⟨g8, c8, u8, rfl, hc8, hg8a, hg8b, x0, x1, x2, x3⟩ := row_prep HO8.out rfl (HKL.out.keep (Stays.of HB68.out)) k (by omega); rw [hLk] at x0 x1 x3; obtain ⟨w9, hw9⟩ : ∃ x, World.alloc w8 (.cells #[] 9) = x := ⟨_, rfl⟩; have h89 : Below w8.heap.size w8 w9 := (by rw [← hw9]; exact (Below.refl _ _).alloc (Nat.le_refl _) _); have y2 := below_cell h89 x2; have HT9 := Lib.hid (x3.below h89); have HB9 := Lib.hid h89; have HL9 := Lib.hid (World.ownsRow_lit (base := w8.heap.size) (e := 9) (size := 1) w8 #[] 0 (Nat.le_refl _) (by decide) rfl); rw [hw9] at HL9; clear hown8 hg8 x0 x1 x2 x3 h89)
          | (at_builtin; refine append_tx rfl _ _ 22 rfl w8.heap.size 9 i0 (.string ⟨#[]⟩) Tryd.underlying22 hi hz0 hz1 hz2 rfl _ 0 [] rfl HL9.out _ tk rfl HT9.out (by (try simp only [List.length_cons, List.length_nil]); unfold maxLen; omega) (by (try simp only [List.length_cons, List.length_nil]); omega) HB9.out.size ?_; intro v10 w10 hown10 hg10; have HO10 := Lib.hid hown10; have HB10 := Lib.hid (HB9.out.grown hg10 HB9.out.size (fun k hk => (HL9.out.lt k hk).1)); obtain ⟨w11, hw11⟩ : ∃ x, World.alloc w10 (.cells #[.string ⟨#[120]⟩] 9) = x := ⟨_, rfl⟩; have h1011 : Below w10.heap.size w10 w11 := (by rw [← hw11]; exact (Below.refl _ _).alloc (Nat.le_refl _) _); have HT11 := Lib.hid (show TxAt w11 (.slice (some ⟨w10.heap.size, 0, none⟩) 1 1) [[120]] from by rw [← hw11]; exact lit_x w10); have HO11 := Lib.hid (own_keep HO10.out h1011); have HB11 := Lib.hid (grow_trans HB10.out h1011); clear hown10 hg10 h1011 y2 hw9)
          | (at_builtin; refine append_tx rfl _ _ 22 rfl w8.heap.size 9 i0 (.string ⟨#[]⟩) Tryd.underlying22 hi hz0 hz1 hz2 rfl _ _ _ rfl HO11.out _ [[120]] rfl HT11.out (by (try simp only [List.length_cons, List.length_nil]); unfold maxLen; omega) (by (try simp only [List.length_cons, List.length_nil]); omega) HB11.out.size ?_; intro v12 w12 hown12 hg12; have HB12 := Lib.hid (HB11.out.grown hg12 HB11.out.size (fun k hk => (HO11.out.lt k hk).1)); obtain ⟨ho12, a12, c12, rfl⟩ := own_txs hown12 rfl rfl htb; have HO12 := Lib.hid ho12; have HO8b := Lib.hid (own_keep HO8.out HB12.out); have HB612 := Lib.hid (grow_trans HB68.out HB12.out); obtain ⟨x2, y2⟩ := row_cell HO8b.out (HKL.out.keep (Stays.of HB612.out)) k (by omega); have y3 := own_free HO8b.out (k * 3 + 2); obtain ⟨w13, hw13⟩ : ∃ x, World.setCell w12 ⟨g8, k * 3 + 2, none⟩ (.slice a12 tb.length c12) = x := ⟨_, rfl⟩; have hst := World.ownsRow.stored HO8b.out (k * 3 + 2) (.slice a12 tb.length c12); rw [hw13] at hst; have HST := Lib.hid hst; have HB613 := Lib.hid (HB612.out.grown hst.2 HB612.out.size (fun k hk => (by cases hk; omega))); have HOL13 := Lib.hid (own_keep HOL.out HB613.out); have HT13 := Lib.hid (TxAt.own (row_grown ho12 hst.2 (fun g hg e => (by cases e; have := (ho12.lt _ hg).1; omega)))); have HL13 := Lib.hid (World.ownsRow_lit (base := w13.heap.size) (e := 25) (size := 3) w13 #[] 0 (Nat.le_refl _) (by decide) rfl); have HS13 := Lib.hid ((src_front (k := k) (Src.own HOL13.out) c6).below ((Below.refl w13.heap.size w13).alloc (Nat.le_refl _) (.cells #[] 25))); clear hown12 hg12 hst hw11 ho12)
          | (at_builtin; refine append_src rfl _ _ 29 rfl w13.heap.size 25 i1 (.agg #[.int .i64 0, .string ⟨#[]⟩, .slice none 0 0]) 3 48 Tryd.underlying29 gi gz0 gz1 gz2 rfl (by decide) _ 0 [] rfl HL13.out _ k (csL.take (k * 3)) rfl LT1 HS13.out ONE1 (by unfold maxLen; omega) (by omega) (by simp) ?_; intro v15 w15 hown15 hg15; have HO15 := Lib.hid hown15; have HB15 := Lib.hid (((Below.refl w13.heap.size w13).alloc (Nat.le_refl _) (.cells #[] 25)).grown hg15 (by simp) (fun k hk => (HL13.out.lt k hk).1)); have HS15 := Lib.hid (fun m c' => (src_back (k := k + 1) (m := m) (Src.own HOL13.out) c').below HB15.out); clear hown15 hg15 y2 y3 hw13)
          | (at_builtin; refine append_src rfl _ _ 29 rfl w13.heap.size 25 i1 (.agg #[.int .i64 0, .string ⟨#[]⟩, .slice none 0 0]) 3 48 Tryd.underlying29 gi gz0 gz1 gz2 rfl (by decide) _ _ _ rfl HO15.out _ (L.length - (k + 1)) (csL.drop ((k + 1) * 3)) rfl LT2 (HS15.out _ _) ONE2 (by unfold maxLen; omega) (by omega) HB15.out.size ?_; intro v16 w16 hown16 hg16; have HO16 := Lib.hid hown16; have HB16 := Lib.hid (HB15.out.grown hg16 HB15.out.size (fun k hk => (HO15.out.lt k hk).1)); clear hown16 hg16))
        have HB616 := Lib.hid (grow_trans HB613.out HB16.out)
        have HB016 := Lib.hid (grow_trans HB06.out HB616.out)
        have hbk := (HKL.out.keep (Stays.of HB616.out)).mono HB616.out.size HB616.out.size
        have hof := own_keep HST.out.1 HB16.out
        have hol := own_keep HOL13.out HB16.out
        have ht16 := HT13.out.below HB16.out
        obtain ⟨c0, c1, c2⟩ := set_blk k hof hbk (by omega)
        obtain ⟨u6, z0, z1, z2, z3⟩ := own_blk hol hbk k (by omega)
        obtain ⟨f1, f2⟩ := HFT.out.2 L[k] (List.getElem_mem _)
        rw [hLk] at c0 c1 z0 z1 z3 f1 f2
        simp only [iv] at c0 c1 z0 z1 z3 f1 f2
        obtain ⟨a6, b6, rfl⟩ := z3.at.len
        have hsz3 := Ct.sizes_snoc tk [120]
        rw [htb] at hsz3
        simp only [List.length_cons, List.length_nil] at hsz3
        have f3 : CutFit (nk, pk, tb) := fit_of (by show Dg.sizes tb ≤ _; omega) f1.1
        have HD1 := Lib.hid (fun (W : World) (hb : Below w16.heap.size w16 W) => rcdig (nk, pk, tb) (.slice a12 tb.length c12) W (ht16.below hb) f3 f2)
        have HD2 := Lib.hid (fun (W : World) (hb : Below w16.heap.size w16 W) => rcdig (nk, pk, tk) (.slice a6 tk.length b6) W (z3.at.below hb) f1 f2)
        have hfor := BlksM.set (TxM.of ht16) hbk k (by omega)
        rw [hLk] at hfor
        simp only at hfor
        have hff : BlkFit (L.set k (nk, pk, tb)) := ⟨by rw [List.length_set]; exact HFT.out.1, fun b hb => by
          rcases List.mem_or_eq_of_mem_set hb with h | rfl
          · exact HFT.out.2 b h
          · exact ⟨f3, f2⟩⟩
        have hfl : BlkFit (L.take k ++ L.drop (k + 1)) := ⟨by have := HFT.out.1; rw [List.length_append, List.length_take, List.length_drop]; omega, fun b hb => by
          rcases List.mem_append.1 hb with h | h
          · exact HFT.out.2 b (List.mem_of_mem_take h)
          · exact HFT.out.2 b (List.mem_of_mem_drop h)⟩
        have hcf := own_cap hof (by rw [List.length_set]) hfor
        have hcl2 := own_cap (bs := L.take k ++ L.drop (k + 1)) HO16.out (by rw [List.length_append, List.length_take, List.length_drop]; omega) (BlksM.app (hbk.drop (k + 1)) (by simpa using hbk.takeF k))
        have HCF := Lib.hid (fun (W : World) (hb : Below w16.heap.size w16 W) => pcchained _ (L.set k (nk, pk, tb)) 0 [] W (hcf.below hb) hff ((HW.out.below HB016.out).below hb))
        have HCL := Lib.hid (fun (W : World) (hb : Below w16.heap.size w16 W) => pcchained _ (L.take k ++ L.drop (k + 1)) 0 [] W (hcl2.below hb) hfl ((HW.out.below HB016.out).below hb))
        rw [Ct.less_no Ct.dig Ct.nxt Ct.nxt_ne L 0 [] HCH.out k hk] at HCL
        have hno := Ct.forged_no Ct.dig Ct.nxt L 0 [] HCH.out k hk (nk, pk, tb)
        rw [hLk] at hno
        have hS : (fun w' : World => w'.cell? ⟨g8, k * 3, none⟩ = some (.int .i64 nk) ∧ w'.cell? ⟨g8, k * 3 + 1, none⟩ = some (tx pk) ∧ w'.cell? ⟨g8, k * 3 + 2, none⟩ = some (.slice a12 tb.length c12) ∧ w'.cell? ⟨g6, k * 3, none⟩ = some (.int .i64 nk) ∧ w'.cell? ⟨g6, k * 3 + 1, none⟩ = some (tx pk) ∧ w'.cell? ⟨g6, k * 3 + 2, none⟩ = some (.slice a6 tk.length b6) ∧ Below w16.heap.size w16 w') w16 := ⟨c0, c1, c2, z0, z1, z2, Below.refl _ _⟩
        have hkp := Lib.hid (show ∀ A1 A2 : World, (fun w' : World => w'.cell? ⟨g8, k * 3, none⟩ = some (.int .i64 nk) ∧ w'.cell? ⟨g8, k * 3 + 1, none⟩ = some (tx pk) ∧ w'.cell? ⟨g8, k * 3 + 2, none⟩ = some (.slice a12 tb.length c12) ∧ w'.cell? ⟨g6, k * 3, none⟩ = some (.int .i64 nk) ∧ w'.cell? ⟨g6, k * 3 + 1, none⟩ = some (tx pk) ∧ w'.cell? ⟨g6, k * 3 + 2, none⟩ = some (.slice a6 tk.length b6) ∧ Below w16.heap.size w16 w') A1 → Below A1.heap.size A1 A2 → (fun w' : World => w'.cell? ⟨g8, k * 3, none⟩ = some (.int .i64 nk) ∧ w'.cell? ⟨g8, k * 3 + 1, none⟩ = some (tx pk) ∧ w'.cell? ⟨g8, k * 3 + 2, none⟩ = some (.slice a12 tb.length c12) ∧ w'.cell? ⟨g6, k * 3, none⟩ = some (.int .i64 nk) ∧ w'.cell? ⟨g6, k * 3 + 1, none⟩ = some (tx pk) ∧ w'.cell? ⟨g6, k * 3 + 2, none⟩ = some (.slice a6 tk.length b6) ∧ Below w16.heap.size w16 w') A2 from fun A1 A2 ⟨k0, k1, k2, k3, k4, k5, kb⟩ h => ⟨below_cell h k0, below_cell h k1, below_cell h k2, below_cell h k3, below_cell h k4, below_cell h k5, grow_trans kb h⟩)
        obtain ⟨d1, hd1⟩ : ∃ d, Ct.dig (nk, pk, tb) = d := ⟨_, rfl⟩
        obtain ⟨d2, hd2⟩ : ∃ d, Ct.dig (nk, pk, tk) = d := ⟨_, rfl⟩
        simp only [hd1] at HD1 hno
        simp only [hd2] at HD2 hno
        simp only [blkV, iv] at HD1 HD2
        clear hbk hof hol ht16 z3 f1 f2 f3 hfor hff hfl hcf hcl2 hd1 hd2 HOL HOL13 HO16 HS13 HS15 HL13 HT13 HST HO12 HO8b HO8 HL9 HT9 HT11 HO10 HO11 HS6 HL1 HKL HFT HCH HSZ LT1 LT2 ONE1 ONE2 hcl hsz3
        by_cases hd : d1 = d2
        · subst hd
          clear hno HCF
          go_region_held3 (fun w' : World => w'.cell? ⟨g8, k * 3, none⟩ = some (.int .i64 nk) ∧ w'.cell? ⟨g8, k * 3 + 1, none⟩ = some (tx pk) ∧ w'.cell? ⟨g8, k * 3 + 2, none⟩ = some (.slice a12 tb.length c12) ∧ w'.cell? ⟨g6, k * 3, none⟩ = some (.int .i64 nk) ∧ w'.cell? ⟨g6, k * 3 + 1, none⟩ = some (tx pk) ∧ w'.cell? ⟨g6, k * 3 + 2, none⟩ = some (.slice a6 tk.length b6) ∧ Below w16.heap.size w16 w')
            (first | assumption | exact hkp.out _ _ hS (Below.drew (Below.refl _ _)))
            (first
              | (go_at_call 18; refine (keepB (fun w' : World => w'.cell? ⟨g8, k * 3, none⟩ = some (.int .i64 nk) ∧ w'.cell? ⟨g8, k * 3 + 1, none⟩ = some (tx pk) ∧ w'.cell? ⟨g8, k * 3 + 2, none⟩ = some (.slice a12 tb.length c12) ∧ w'.cell? ⟨g6, k * 3, none⟩ = some (.int .i64 nk) ∧ w'.cell? ⟨g6, k * 3 + 1, none⟩ = some (tx pk) ∧ w'.cell? ⟨g6, k * 3 + 2, none⟩ = some (.slice a6 tk.length b6) ∧ Below w16.heap.size w16 w') hkp.out (HD1.out _ (show (fun w' : World => w'.cell? ⟨g8, k * 3, none⟩ = some (.int .i64 nk) ∧ w'.cell? ⟨g8, k * 3 + 1, none⟩ = some (tx pk) ∧ w'.cell? ⟨g8, k * 3 + 2, none⟩ = some (.slice a12 tb.length c12) ∧ w'.cell? ⟨g6, k * 3, none⟩ = some (.int .i64 nk) ∧ w'.cell? ⟨g6, k * 3 + 1, none⟩ = some (tx pk) ∧ w'.cell? ⟨g6, k * 3 + 2, none⟩ = some (.slice a6 tk.length b6) ∧ Below w16.heap.size w16 w') _ by assumption).2.2.2.2.2.2) (by assumption)).mono ?_; rintro e w20 ⟨rfl, kS⟩; clear HD1)
              | (go_at_call 18; refine (keepB (fun w' : World => w'.cell? ⟨g8, k * 3, none⟩ = some (.int .i64 nk) ∧ w'.cell? ⟨g8, k * 3 + 1, none⟩ = some (tx pk) ∧ w'.cell? ⟨g8, k * 3 + 2, none⟩ = some (.slice a12 tb.length c12) ∧ w'.cell? ⟨g6, k * 3, none⟩ = some (.int .i64 nk) ∧ w'.cell? ⟨g6, k * 3 + 1, none⟩ = some (tx pk) ∧ w'.cell? ⟨g6, k * 3 + 2, none⟩ = some (.slice a6 tk.length b6) ∧ Below w16.heap.size w16 w') hkp.out (HD2.out _ (show (fun w' : World => w'.cell? ⟨g8, k * 3, none⟩ = some (.int .i64 nk) ∧ w'.cell? ⟨g8, k * 3 + 1, none⟩ = some (tx pk) ∧ w'.cell? ⟨g8, k * 3 + 2, none⟩ = some (.slice a12 tb.length c12) ∧ w'.cell? ⟨g6, k * 3, none⟩ = some (.int .i64 nk) ∧ w'.cell? ⟨g6, k * 3 + 1, none⟩ = some (tx pk) ∧ w'.cell? ⟨g6, k * 3 + 2, none⟩ = some (.slice a6 tk.length b6) ∧ Below w16.heap.size w16 w') _ by assumption).2.2.2.2.2.2) (by assumption)).mono ?_; rintro e w20 ⟨rfl, kS⟩))
          have HB17 := Lib.hid (show (fun w' : World => w'.cell? ⟨g8, k * 3, none⟩ = some (.int .i64 nk) ∧ w'.cell? ⟨g8, k * 3 + 1, none⟩ = some (tx pk) ∧ w'.cell? ⟨g8, k * 3 + 2, none⟩ = some (.slice a12 tb.length c12) ∧ w'.cell? ⟨g6, k * 3, none⟩ = some (.int .i64 nk) ∧ w'.cell? ⟨g6, k * 3 + 1, none⟩ = some (tx pk) ∧ w'.cell? ⟨g6, k * 3 + 2, none⟩ = some (.slice a6 tk.length b6) ∧ Below w16.heap.size w16 w') _ by assumption).2.2.2.2.2.2
          clear hS hkp HD2 c0 c1 c2 z0 z1 z2
          go_wp2_with fail
          refine (HCL.out _ HB17.out).mono ?_
          rintro e w18 ⟨rfl, h18⟩
          have HB18 := Lib.hid (grow_trans HB17.out h18)
          have HB018 := Lib.hid (grow_trans HB016.out HB18.out)
          go_wp2_with fail
          go_ret
          exact ⟨rfl, HB018.out⟩
        · have e1 : (d1 == d2) = false := by simpa using hd
          have e2 : (d1 != d2) = true := by simpa using hd
          rw [hno hd] at HCF
          clear hno hd
          go_region_held3 (fun w' : World => w'.cell? ⟨g8, k * 3, none⟩ = some (.int .i64 nk) ∧ w'.cell? ⟨g8, k * 3 + 1, none⟩ = some (tx pk) ∧ w'.cell? ⟨g8, k * 3 + 2, none⟩ = some (.slice a12 tb.length c12) ∧ w'.cell? ⟨g6, k * 3, none⟩ = some (.int .i64 nk) ∧ w'.cell? ⟨g6, k * 3 + 1, none⟩ = some (tx pk) ∧ w'.cell? ⟨g6, k * 3 + 2, none⟩ = some (.slice a6 tk.length b6) ∧ Below w16.heap.size w16 w')
            (first | assumption | exact hkp.out _ _ hS (Below.drew (Below.refl _ _)))
            (first
              | (go_at_call 18; refine (keepB (fun w' : World => w'.cell? ⟨g8, k * 3, none⟩ = some (.int .i64 nk) ∧ w'.cell? ⟨g8, k * 3 + 1, none⟩ = some (tx pk) ∧ w'.cell? ⟨g8, k * 3 + 2, none⟩ = some (.slice a12 tb.length c12) ∧ w'.cell? ⟨g6, k * 3, none⟩ = some (.int .i64 nk) ∧ w'.cell? ⟨g6, k * 3 + 1, none⟩ = some (tx pk) ∧ w'.cell? ⟨g6, k * 3 + 2, none⟩ = some (.slice a6 tk.length b6) ∧ Below w16.heap.size w16 w') hkp.out (HD1.out _ (show (fun w' : World => w'.cell? ⟨g8, k * 3, none⟩ = some (.int .i64 nk) ∧ w'.cell? ⟨g8, k * 3 + 1, none⟩ = some (tx pk) ∧ w'.cell? ⟨g8, k * 3 + 2, none⟩ = some (.slice a12 tb.length c12) ∧ w'.cell? ⟨g6, k * 3, none⟩ = some (.int .i64 nk) ∧ w'.cell? ⟨g6, k * 3 + 1, none⟩ = some (tx pk) ∧ w'.cell? ⟨g6, k * 3 + 2, none⟩ = some (.slice a6 tk.length b6) ∧ Below w16.heap.size w16 w') _ by assumption).2.2.2.2.2.2) (by assumption)).mono ?_; rintro e w20 ⟨rfl, kS⟩; clear HD1)
              | (go_at_call 18; refine (keepB (fun w' : World => w'.cell? ⟨g8, k * 3, none⟩ = some (.int .i64 nk) ∧ w'.cell? ⟨g8, k * 3 + 1, none⟩ = some (tx pk) ∧ w'.cell? ⟨g8, k * 3 + 2, none⟩ = some (.slice a12 tb.length c12) ∧ w'.cell? ⟨g6, k * 3, none⟩ = some (.int .i64 nk) ∧ w'.cell? ⟨g6, k * 3 + 1, none⟩ = some (tx pk) ∧ w'.cell? ⟨g6, k * 3 + 2, none⟩ = some (.slice a6 tk.length b6) ∧ Below w16.heap.size w16 w') hkp.out (HD2.out _ (show (fun w' : World => w'.cell? ⟨g8, k * 3, none⟩ = some (.int .i64 nk) ∧ w'.cell? ⟨g8, k * 3 + 1, none⟩ = some (tx pk) ∧ w'.cell? ⟨g8, k * 3 + 2, none⟩ = some (.slice a12 tb.length c12) ∧ w'.cell? ⟨g6, k * 3, none⟩ = some (.int .i64 nk) ∧ w'.cell? ⟨g6, k * 3 + 1, none⟩ = some (tx pk) ∧ w'.cell? ⟨g6, k * 3 + 2, none⟩ = some (.slice a6 tk.length b6) ∧ Below w16.heap.size w16 w') _ by assumption).2.2.2.2.2.2) (by assumption)).mono ?_; rintro e w20 ⟨rfl, kS⟩))
          have HB17 := Lib.hid (show (fun w' : World => w'.cell? ⟨g8, k * 3, none⟩ = some (.int .i64 nk) ∧ w'.cell? ⟨g8, k * 3 + 1, none⟩ = some (tx pk) ∧ w'.cell? ⟨g8, k * 3 + 2, none⟩ = some (.slice a12 tb.length c12) ∧ w'.cell? ⟨g6, k * 3, none⟩ = some (.int .i64 nk) ∧ w'.cell? ⟨g6, k * 3 + 1, none⟩ = some (tx pk) ∧ w'.cell? ⟨g6, k * 3 + 2, none⟩ = some (.slice a6 tk.length b6) ∧ Below w16.heap.size w16 w') _ by assumption).2.2.2.2.2.2
          clear hS hkp HD2 c0 c1 c2 z0 z1 z2
          go_wp2_with fail
          refine (HCF.out _ HB17.out).mono ?_
          rintro e w18 ⟨rfl, h18⟩
          have HB18 := Lib.hid (grow_trans HB17.out h18)
          have HB018 := Lib.hid (grow_trans HB016.out HB18.out)
          go_wp2_with fail
          refine (HCL.out _ HB18.out).mono ?_
          rintro e w19 ⟨rfl, h19⟩
          have HB019 := Lib.hid (grow_trans HB018.out h19)
          go_wp2_with fail
          go_ret
          exact ⟨rfl, HB019.out⟩

theorem cutForged_walk {H : Type} (enc : TypeId × Value → H) (W : World) (base : Nat) (v0 : Value) (v1 : Value) (d0 : DataW H) (d1 : DataW H) (p0 : List MemPlace) (p1 : List MemPlace)
    (h0 : DataW.Trod enc Tryd.prog W 0 (fun _ => true) true 22 v0 d0 p0) (o0 : Value.okWide Tryd.prog W .any base 22 v0)
    (h1 : DataW.Trod enc Tryd.prog W 0 (fun _ => true) true 3 v1 d1 p1) (o1 : Value.okWide Tryd.prog W .any base 3 v1)
    (_hsz : (DataW.weightsEach Tryd.prog [22, 3] [d0, d1]).all (· ≤ reachBytes) = true) (hk : Rows.uptoSmall H [d0, d1] = true) (hg : GW W) :
    Calls Tryd.prog 9 #[v0, v1] W fun e W' => e = .returned (.bool true) ∧ Below W.heap.size W W' := by
  obtain ⟨aa, la, ca, rfl⟩ := okWide_slice Tryd.underlying22 o0
  obtain ⟨f0, h0⟩ := h0
  obtain ⟨a, ta, ba⟩ := trod_txs (y := (d0, p0)) Tryd.underlying22 h0
  obtain ⟨q, rfl⟩ := okWide_int Tryd.underlying3 o1
  obtain ⟨f1, h1⟩ := h1
  obtain ⟨x, hx0, hx1, e1, _⟩ := trod_i64 (y := (d1, p1)) Tryd.underlying3 h1
  cases e1
  have hb : Rows.uptoBulkAll [d0, d1] ≤ 1048576 := of_decide_eq_true hk
  simp only [Rows.uptoBulkAll] at hb
  simp only [] at ba
  exact cutForged_core a _ _ W ta (by omega) ⟨hx0, hx1⟩ hg
end Go.Proofs.YtldhkgelifmipaaDoor
