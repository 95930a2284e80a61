/- Chapter 15 (cut): steps with flushes, as plain functions and in a world; opening those that came in; the loop state of runs. (CutMath2, CutStep and CutRuns in one text: a claim holds at most 60 files.) -/
import Derived.Test.YtldhkgelifmipaaDoorCutMath
import Derived.Test.YtldhkgelifmipaaDoorCutOpen
import Derived.Test.YtldhkgelifmipaaDoorCutShown
import Derived.Test.YtldhkgelifmipaaDoorOpenRows
namespace Ct
variable (D : Blk → Tx) (N : Int → Int)

/-- The k-th number from n on. -/
def num : Nat → Int → Int
  | 0, n => n
  | k + 1, n => num k (N n)
theorem num_succ (k : Nat) (n : Int) : num N (k + 1) n = N (num N k n) := by
  induction k generalizing n with
  | zero => rfl
  | succ k ih => rw [num, ih]; rfl
theorem chained_num (l : List Blk) (n : Int) (p : Tx) (h : chained D N l n p = true) (k : Nat) (hk : k < l.length) : l[k].1 = num N k n := by
  induction l generalizing n p k with
  | nil => simp at hk
  | cons x l ih =>
    simp only [chained, Bool.and_eq_true, decide_eq_true_iff] at h
    cases k with
    | zero => exact h.1.1
    | succ k => exact ih _ _ h.2 k (by simpa using hk)
theorem chained_prev (l : List Blk) (n : Int) (p : Tx) (h : chained D N l n p = true) (k : Nat) (hk : k + 1 < l.length) : l[k + 1].2.1 = D (l[k]'(by omega)) := by
  induction l generalizing n p k with
  | nil => simp at hk
  | cons x l ih =>
    simp only [chained, Bool.and_eq_true, decide_eq_true_iff] at h
    cases k with
    | zero =>
      cases l with
      | nil => simp at hk
      | cons y l =>
        have h2 := h.2
        simp only [chained, Bool.and_eq_true, decide_eq_true_iff] at h2
        exact h2.1.2
    | succ k => exact ih _ _ h.2 k (by simpa using hk)
/-- Another block in the middle, with another digest: chained no more. -/
theorem forged_no (l : List Blk) (n : Int) (p : Tx) (h : chained D N l n p = true) (k : Nat) (hk : k + 1 < l.length) (b : Blk) (hb : D b ≠ D (l[k]'(by omega))) : chained D N (l.set k b) n p = false := by
  rw [Bool.eq_false_iff]
  intro h2
  have e := chained_prev D N _ n p h2 k (by simpa using hk)
  rw [List.getElem_set_ne (by omega), List.getElem_set_self, chained_prev D N l n p h k hk] at e
  exact hb e.symm
/-- One block left out: chained no more. -/
theorem less_no (hN : ∀ x, N x ≠ x) (l : List Blk) (n : Int) (p : Tx) (h : chained D N l n p = true) (k : Nat) (hk : k + 1 < l.length) : chained D N (l.take k ++ l.drop (k + 1)) n p = false := by
  rw [Bool.eq_false_iff]
  intro h2
  have ht : (l.take k).length = k := by rw [List.length_take]; omega
  have e := chained_num D N _ n p h2 k (by rw [List.length_append, ht, List.length_drop]; omega)
  have e2 : (l.take k ++ l.drop (k + 1))[k]'(by rw [List.length_append, ht, List.length_drop]; omega) = l[k + 1] := by
    rw [List.getElem_append_right (by omega)]
    simp [ht]
  rw [e2, chained_num D N l n p h (k + 1) hk, num_succ] at e
  exact hN _ e

/-- A step: transactions, and whether there is a flush behind them. -/
abbrev Stp := List Tx × Bool
def rstep (x : Blk × List Blk) (s : Stp) : Blk × List Blk :=
  if s.2 = true then ((flush D N (feed D N x.1 s.1).1).1, x.2 ++ (feed D N x.1 s.1).2 ++ (flush D N (feed D N x.1 s.1).1).2) else ((feed D N x.1 s.1).1, x.2 ++ (feed D N x.1 s.1).2)
def runs (l : List Stp) : Blk × List Blk := l.foldl (rstep D N) ((0, [], []), [])
theorem runs_step (l : List Stp) (k : Nat) (h : k < l.length) : runs D N (l.take (k + 1)) = rstep D N (runs D N (l.take k)) l[k] := by
  rw [List.take_succ_eq_append_getElem h, runs, List.foldl_append]; rfl
theorem rfold_out (l : List Stp) (x : Blk × List Blk) : ∃ r, (l.foldl (rstep D N) x).2 = x.2 ++ r := by
  induction l generalizing x with
  | nil => exact ⟨[], by simp⟩
  | cons s l ih =>
    obtain ⟨r, hr⟩ := ih (rstep D N x s)
    rw [List.foldl_cons, hr, rstep]
    split
    · exact ⟨(feed D N x.1 s.1).2 ++ (flush D N (feed D N x.1 s.1).1).2 ++ r, by simp⟩
    · exact ⟨(feed D N x.1 s.1).2 ++ r, by simp⟩
/-- CutPrefix: the blocks of a beginning are the beginning of the blocks. -/
theorem runs_prefix (a b : List Stp) : (runs D N (a ++ b)).2.take (runs D N a).2.length = (runs D N a).2 ∧ (runs D N a).2.length ≤ (runs D N (a ++ b)).2.length := by
  obtain ⟨r, hr⟩ := rfold_out D N b (runs D N a)
  have e : (runs D N (a ++ b)).2 = (runs D N a).2 ++ r := by
    rw [← hr, runs, List.foldl_append]; rfl
  rw [e]
  exact ⟨by simp, by simp⟩
theorem flush_texts (c : Blk) : texts (flush D N c).2 ++ (flush D N c).1.2.2 = c.2.2 := by
  rw [flush]
  split
  · simp [texts]
  · simp [texts]
/-- CutAll: the transactions, in order. -/
theorem rstep_texts (x : Blk × List Blk) (s : Stp) : texts (rstep D N x s).2 ++ (rstep D N x s).1.2.2 = texts x.2 ++ x.1.2.2 ++ s.1 := by
  have h1 := feed_texts D N x.1 s.1
  rw [rstep]
  split
  · have h2 := flush_texts D N (feed D N x.1 s.1).1
    simp only [texts_app, List.append_assoc]
    rw [h2, h1]
  · simp only [texts_app, List.append_assoc]
    rw [h1]
theorem runs_texts (l : List Stp) : texts (runs D N l).2 ++ (runs D N l).1.2.2 = l.flatMap (·.1) := by
  have key : ∀ k, k ≤ l.length → texts (runs D N (l.take k)).2 ++ (runs D N (l.take k)).1.2.2 = (l.take k).flatMap (·.1) := by
    intro k
    induction k with
    | zero => intro _; simp [runs, texts]
    | succ k ih =>
      intro hk
      rw [runs_step D N l k (by omega), rstep_texts, ih (by omega), List.take_succ_eq_append_getElem (show k < l.length by omega), List.flatMap_append]
      simp only [List.flatMap_cons, List.flatMap_nil, List.append_nil]
  have := key l.length (Nat.le_refl _)
  rwa [List.take_length] at this
/-- What holds of the blocks and of what waits, all the way. -/
structure Well (x : Blk × List Blk) : Prop where
  inv : Inv D N 0 [] x
  good : ∀ b ∈ x.2, Ct.good b
  wait : waits x.1
theorem Well.one {x : Blk × List Blk} (h : Well D N x) (t : Tx) : Well D N (step D N x t) := by
  refine ⟨h.inv.step D N t, ?_, ?_⟩
  · rw [Ct.step]
    split
    · exact h.good
    · rename_i hf
      intro b hb
      rcases List.mem_append.1 hb with hb | hb
      · exact h.good b hb
      · obtain rfl : b = x.1 := by simpa using hb
        exact waits_good x.1 h.wait (fits_false _ t (by simpa using hf))
  · rw [Ct.step]
    split
    · rename_i hf
      exact fits_waits x.1 t hf
    · exact ⟨by simp, .inr (by simp)⟩
theorem Well.feed {x : Blk × List Blk} (h : Well D N x) (l : List Tx) : Well D N ((Ct.feed D N x.1 l).1, x.2 ++ (Ct.feed D N x.1 l).2) := by
  have e : ∀ (l : List Tx) (x : Blk × List Blk), Well D N x → Well D N (l.foldl (step D N) x) := by
    intro l
    induction l with
    | nil => exact fun _ h => h
    | cons t l ih => exact fun x h => ih _ (h.one D N t)
  have h2 := e l (x.1, x.2) h
  rw [fold_out] at h2
  exact h2
theorem Well.flush {x : Blk × List Blk} (h : Well D N x) : Well D N ((Ct.flush D N x.1).1, x.2 ++ (Ct.flush D N x.1).2) := by
  rw [Ct.flush]
  split
  · simpa using h
  · rename_i hn
    refine ⟨h.inv.cutOne D N [], fun b hb => ?_, ⟨by simp, .inr (by simp)⟩⟩
    rcases List.mem_append.1 hb with hb | hb
    · exact h.good b hb
    · obtain rfl : b = x.1 := by simpa using hb
      exact waits_good x.1 h.wait hn
theorem runs_well (l : List Stp) : Well D N (runs D N l) := by
  have e : ∀ (l : List Stp) (x : Blk × List Blk), Well D N x → Well D N (l.foldl (rstep D N) x) := by
    intro l
    induction l with
    | nil => exact fun _ h => h
    | cons s l ih =>
      intro x h
      refine ih _ ?_
      rw [rstep]
      split
      · exact (h.feed D N s.1).flush D N
      · exact h.feed D N s.1
  exact e l _ ⟨Inv.start D N (0, [], []), fun b hb => by simp at hb, ⟨by simp, .inr (by simp)⟩⟩
end Ct
namespace Ct
theorem texts_memS (bs : List Blk) (b : Blk) (h : b ∈ bs) : total b.2.2 ≤ total (texts bs) ∧ b.2.2.length ≤ (texts bs).length := by
  induction bs with
  | nil => cases h
  | cons x bs ih =>
    have e : texts (x :: bs) = x.2.2 ++ texts bs := by simp [texts]
    rw [e, total_app, List.length_append]
    rcases List.mem_cons.1 h with rfl | h
    · omega
    · have := ih h
      omega
/-- How large what all steps feed is. -/
def stepSizes (l : List Stp) : Nat := (l.map fun s => Dg.sizes s.1).sum
theorem stepSizes_cons (s : Stp) (l : List Stp) : stepSizes (s :: l) = Dg.sizes s.1 + stepSizes l := by simp [stepSizes]
theorem stepSizes_app (a b : List Stp) : stepSizes (a ++ b) = stepSizes a + stepSizes b := by simp [stepSizes]
end Ct
namespace Go.Proofs.YtldhkgelifmipaaDoor
open Go.RowKit Go.ChangeShapes Go.WideShapes Go.ChangeAt

theorem stpBulk_pos {H : Type} (d : DataW H) : 1 ≤ Rows.uptoBulk d := by
  cases d with
  | lit l => cases l <;> simp [Rows.uptoBulk]
  | _ => simp [Rows.uptoBulk]
theorem stpBulk_mem {H : Type} (D : List (DataW H)) : D.length ≤ Rows.uptoBulkAll D ∧ ∀ d ∈ D, Rows.uptoBulk d ≤ Rows.uptoBulkAll D := by
  induction D with
  | nil => exact ⟨by simp, fun d h => by cases h⟩
  | cons x D ih =>
    have := stpBulk_pos x
    simp only [Rows.uptoBulkAll, List.length_cons]
    refine ⟨by omega, fun d h => ?_⟩
    rcases List.mem_cons.1 h with rfl | h
    · omega
    · have := ih.2 d h
      omega
/-- Steps, as the cells of a slice: two each. -/
def StpsM (w : World) : List Value → List Ct.Stp → Prop
  | [], [] => True
  | u :: b :: cs, s :: ss => b = .bool s.2 ∧ TxAt w u s.1 ∧ StpsM w cs ss
  | _, _ => False
theorem StpsM.len {w : World} : ∀ {cs : List Value} {l : List Ct.Stp}, StpsM w cs l → cs.length = l.length * 2
  | [], [], _ => rfl
  | _ :: _ :: cs, _ :: l, h => by have := StpsM.len (cs := cs) h.2.2; simp only [List.length_cons]; omega
theorem StpsM.keep {w w' : World} (hb : Below w.heap.size w w') : ∀ {cs : List Value} {l : List Ct.Stp}, StpsM w cs l → StpsM w' cs l
  | [], [], _ => trivial
  | _ :: _ :: _, _ :: _, h => ⟨h.1, h.2.1.below hb, StpsM.keep hb h.2.2⟩
theorem StpsM.app {w : World} {ds : List Value} {ys : List Ct.Stp} (k : StpsM w ds ys) : ∀ {cs : List Value} {l : List Ct.Stp}, StpsM w cs l → StpsM w (cs ++ ds) (l ++ ys)
  | [], [], _ => k
  | _ :: _ :: _, _ :: _, h => ⟨h.1, h.2.1, StpsM.app k h.2.2⟩
theorem StpsM.get {w : World} : ∀ {cs : List Value} {l : List Ct.Stp}, StpsM w cs l → ∀ k (h : k < l.length), ∃ u, cs[k * 2]? = some u ∧ cs[k * 2 + 1]? = some (.bool l[k].2) ∧ TxAt w u l[k].1
  | [], [], _, k, hk => absurd hk (by simp)
  | u :: b :: cs, s :: l, h, 0, _ => ⟨u, rfl, by rw [h.1]; rfl, h.2.1⟩
  | u :: b :: cs, s :: l, h, k + 1, hk => by
    obtain ⟨u, h1, h2, h3⟩ := StpsM.get h.2.2 k (by simpa using hk)
    refine ⟨u, ?_, ?_, h3⟩
    · rw [show (k + 1) * 2 = k * 2 + 2 by omega]; exact h1
    · rw [show (k + 1) * 2 + 1 = k * 2 + 1 + 2 by omega]; exact h2
theorem StpsM.one {w : World} {cs : List Value} {l : List Ct.Stp} (h : StpsM w cs l) : ∀ u ∈ cs, u.oneCell' = true := by
  induction cs, l using StpsM.induct with
  | case1 => intro u hu; cases hu
  | case2 a b cs s l ih =>
    obtain ⟨h1, h2, h3⟩ := h
    intro u hu
    simp only [List.mem_cons] at hu
    rcases hu with rfl | rfl | hu
    · exact one_tx h2
    · rw [h1]; rfl
    · exact ih h3 u hu
  | case3 a b h => simp [StpsM] at h

/-- A step that came in. -/
def StpIn {H : Type} (W : World) (s : Ct.Stp) (cs : List Value) (d : DataW H) : Prop := ∃ u, cs = [u, .bool s.2] ∧ TxAt W u s.1 ∧ Dg.sizes s.1 ≤ Rows.uptoBulk d
theorem elem_step {H : Type} {enc : TypeId × Value → H} {W : World} (n : Nat) (cs : List Value) (x : DataW H × List MemPlace) (hl : cs.length = 2) (h : DataW.trod enc Tryd.prog W 0 (fun _ => true) true n 43 cs = some x) :
    ∃ s : Ct.Stp, StpIn W s cs x.1 := by
  obtain ⟨xs, m, _, rfl, _, hlen, hf⟩ := DataW.trod_struct Tryd.underlying43 h
  have k1 : Tryd.prog.cellsOf 22 = 1 := by kernel_rfl
  have k2 : Tryd.prog.cellsOf 4 = 1 := by kernel_rfl
  match cs, hl, xs, hlen with
  | [a, b], _, [y0, y1], _ =>
    have h0 := hf 0 _ rfl
    have h1 := hf 1 _ rfl
    obtain ⟨ls, hv, hb⟩ := trod_txs (v := a) (y := y0) Tryd.underlying22 (by simpa [k1] using h0)
    obtain ⟨q, e, _⟩ := DataW.trod_bool (cs := [b]) (x := y1) Tryd.underlying4 (by simpa [k2] using h1)
    injection e with e _
    subst e
    refine ⟨(ls, q), a, rfl, hv, ?_⟩
    simp only [List.map_cons, List.map_nil, Rows.uptoBulk, Rows.uptoBulkAll]
    omega
theorem stps_of {H : Type} {W : World} {ad : Addr} (l : List Ct.Stp) (D : List (DataW H)) (hD : D.length = l.length) (i0 : Nat) (h : ∀ k (hk : k < l.length) (hk' : k < D.length), ∃ cs : List Value, cs.length = 2 ∧ StpIn W l[k] cs D[k] ∧ ∀ j u, cs[j]? = some u → W.cell? (ad.add ((i0 + k) * 2 + j)) = some u) :
    ∃ cs : List Value, StpsM W cs l ∧ Ct.stepSizes l ≤ Rows.uptoBulkAll D ∧ ∀ j u, cs[j]? = some u → W.cell? (ad.add (i0 * 2 + j)) = some u := by
  induction l generalizing D i0 with
  | nil => exact ⟨[], trivial, by simp [Ct.stepSizes], fun j u h => absurd h (by simp)⟩
  | cons s l ih =>
    match D, hD with
    | d :: D, hD =>
      obtain ⟨c0, _, ⟨u, rfl, ht, hs⟩, hc⟩ := h 0 (by simp) (by simp)
      obtain ⟨cs, e1, e2, e3⟩ := ih D (by simpa using hD) (i0 + 1) (fun k hk hk' => by
        obtain ⟨c, g1, g2, g3⟩ := h (k + 1) (by simpa using hk) (by simpa using hk')
        exact ⟨c, g1, g2, fun j v hj => by rw [show i0 + 1 + k = i0 + (k + 1) by omega]; exact g3 j v hj⟩)
      refine ⟨u :: .bool s.2 :: cs, ⟨rfl, ht, e1⟩, ?_, fun j v hj => ?_⟩
      · rw [Ct.stepSizes_cons]
        simp only [Rows.uptoBulkAll]
        have hs' : Dg.sizes s.1 ≤ Rows.uptoBulk d := hs
        omega
      · match j, hj with
        | 0, hj => exact hc 0 v hj
        | 1, hj => exact hc 1 v hj
        | j + 2, hj =>
          have := e3 j v hj
          rwa [show (i0 + 1) * 2 + j = i0 * 2 + (j + 2) by omega] at this
theorem trod_steps {H : Type} {enc : TypeId × Value → H} {W : World} {n : Nat} {v : Value} {y : DataW H × List MemPlace} (h : DataW.trod enc Tryd.prog W 0 (fun _ => true) true n 39 [v] = some y) :
    ∃ l cs, Src W v l.length cs ∧ StpsM W cs l ∧ Ct.stepSizes l ≤ Rows.uptoBulk y.1 ∧ l.length ≤ Rows.uptoBulk y.1 := by
  rcases open_rows (K := 2) (fun (s : Ct.Stp) cs (d : DataW H) => StpIn W s cs d) Tryd.underlying39 (by kernel_rfl) (by decide) elem_step h with ⟨rfl, _⟩ | ⟨ad, cap, l, D, sp, rfl, h1, h2, hs, hy, hD, hc⟩
  · exact ⟨[], [], .inl ⟨rfl, rfl⟩, trivial, by simp [Ct.stepSizes], by simp⟩
  · obtain ⟨cs, e1, e2, e3⟩ := stps_of (ad := ad) l D hD 0 (fun k hk hk' => by
      obtain ⟨c, g1, g2, g3⟩ := hc k hk hk'
      exact ⟨c, g1, g2, fun j u hj => by rw [Nat.zero_add]; exact g3 j u hj⟩)
    have := (stpBulk_mem D).1
    refine ⟨l, cs, .inr ⟨ad, cap, rfl, fun j u hj => ?_⟩, e1, ?_, ?_⟩
    · have := e3 j u hj
      simpa using this
    · rw [hy]
      simp only [Rows.uptoBulk]
      omega
    · rw [hy]
      simp only [Rows.uptoBulk]
      omega
end Go.Proofs.YtldhkgelifmipaaDoor
namespace Ct
theorem nxt_ne (x : Int) : nxt x ≠ x := by
  unfold nxt Go.IntKind.wrap
  simp only [Go.IntKind.signed, Go.IntKind.bits]
  simp
  omega
end Ct
namespace Go.Proofs.YtldhkgelifmipaaDoor
open Go.RowKit

structure RS (w wr : World) (C R : Nat) (c : Ct.Blk) (out : List Ct.Blk) (uT bv : Value) : Prop where
  kc : KBox wr C 24 (.int .i64 c.1) (tx c.2.1) uT
  kr : ∃ a b e, KBox wr R 24 a b e
  tu : TxM 0 wr.heap.size wr uT c.2.2
  row : ∃ cs, wr.ownsRow w.heap.size 25 3 bv out.length cs ∧ BlksM 0 wr.heap.size wr cs out
  b : Below w.heap.size w wr
  ne : w.heap.size ≤ C ∧ w.heap.size ≤ R ∧ C ≠ R
theorem RS.keep {w wr w' : World} {C R : Nat} {c : Ct.Blk} {out : List Ct.Blk} {uT bv : Value} (h : RS w wr C R c out uT bv) (hb : Below wr.heap.size wr w') : RS w w' C R c out uT bv := by
  obtain ⟨a, b, e, kr⟩ := h.kr
  obtain ⟨cs, h1, h2⟩ := h.row
  exact ⟨h.kc.kept hb, ⟨a, b, e, kr.kept hb⟩, (h.tu.keep (Stays.of hb)).mono (Nat.le_refl _) hb.size, ⟨cs, own_keep h1 hb, (h2.keep (Stays.of hb)).mono (Nat.le_refl _) hb.size⟩, grow_trans h.b hb, h.ne⟩
/-- Another cutter is put into the box. -/
theorem RS.put {w wr : World} {C R : Nat} {c c' : Ct.Blk} {out : List Ct.Blk} {uT u' bv : Value} (h : RS w wr C R c out uT bv) (ht : TxM 0 wr.heap.size wr u' c'.2.2) :
    RS w (((wr.setCell ⟨C, 0, none⟩ (.int .i64 c'.1)).setCell ⟨C, 1, none⟩ (tx c'.2.1)).setCell ⟨C, 2, none⟩ u') C R c' out u' bv := by
  obtain ⟨a, b, e, kr⟩ := h.kr
  obtain ⟨cs, h1, h2⟩ := h.row
  obtain ⟨n1, n2, n3⟩ := h.ne
  have k1 : KBox (wr.setCell ⟨C, 0, none⟩ (.int .i64 c'.1)) C 24 (.int .i64 c'.1) (tx c.2.1) uT := heap_setK (k := 0) h.kc _
  have k2 : KBox ((wr.setCell ⟨C, 0, none⟩ (.int .i64 c'.1)).setCell ⟨C, 1, none⟩ (tx c'.2.1)) C 24 (.int .i64 c'.1) (tx c'.2.1) uT := heap_setK (k := 1) k1 _
  have st : Stays 0 wr.heap.size wr (((wr.setCell ⟨C, 0, none⟩ (.int .i64 c'.1)).setCell ⟨C, 1, none⟩ (tx c'.2.1)).setCell ⟨C, 2, none⟩ u') :=
    ((Stays.box h.kc (Nat.zero_le _) (by decide) _ _).trans (Stays.box k1 (Nat.zero_le _) (by decide) _ _)).trans (Stays.box k2 (Nat.zero_le _) (by decide) _ _)
  have sz : (((wr.setCell ⟨C, 0, none⟩ (.int .i64 c'.1)).setCell ⟨C, 1, none⟩ (tx c'.2.1)).setCell ⟨C, 2, none⟩ u').heap.size = wr.heap.size := by simp only [World.setCell, Array.size_modify]
  refine ⟨h.kc.set _ _ _, ⟨a, b, e, ((kr.other (Ne.symm n3) _ _).other (Ne.symm n3) _ _).other (Ne.symm n3) _ _⟩, ?_, ⟨cs, own_box (own_box (own_box h1 h.kc (by decide) _ _) k1 (by decide) _ _) k2 (by decide) _ _, ?_⟩, below_set3 h.b n1 _ _ _, h.ne⟩
  · rw [sz]; exact ht.keep st
  · rw [sz]; exact h2.keep st
/-- More blocks are put behind the row. -/
theorem RS.app {w wr w' : World} {C R : Nat} {c : Ct.Blk} {out more : List Ct.Blk} {uT bv v' : Value} {cs ds : List Value} (h : RS w wr C R c out uT bv) (hr : wr.ownsRow w.heap.size 25 3 bv out.length cs) (hcs : BlksM 0 wr.heap.size wr cs out) (hds : BlksM 0 wr.heap.size wr ds more)
    (hown : w'.ownsRow w.heap.size 25 3 v' (out.length + more.length) (cs ++ ds)) (hg : wr.grownBy w' bv.ownBlock) : RS w w' C R c (out ++ more) uT v' := by
  obtain ⟨a, b, e, kr⟩ := h.kr
  have st : Stays 0 wr.heap.size wr w' := Stays.row hr (Nat.zero_le _) hg (Nat.le_refl _) (by decide)
  exact ⟨h.kc.grown hg (row_not hr h.kc (by decide)), ⟨a, b, e, kr.grown hg (row_not hr kr (by decide))⟩, (h.tu.keep st).mono (Nat.le_refl _) hg.size,
    ⟨_, by rw [List.length_append]; exact hown, ((BlksM.app hds hcs).keep st).mono (Nat.le_refl _) hg.size⟩, h.b.grown hg h.b.size (fun k hk => (hr.lt k hk).1), h.ne⟩
end Go.Proofs.YtldhkgelifmipaaDoor
