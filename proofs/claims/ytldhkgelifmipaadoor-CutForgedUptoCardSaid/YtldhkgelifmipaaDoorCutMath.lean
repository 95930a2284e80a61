/- Chapter 15 (cut), as plain functions: what waits, blocks, how they are chained; D is the digest of a block, N the next number. No program is named here. -/
import Derived.Test.YtldhkgelifmipaaDoorDigRows
namespace Ct

abbrev Tx := List UInt8
/-- A block, or what waits for one: its number, the digest of the one before, the transactions. -/
abbrev Blk := Int × Tx × List Tx
def total (l : List Tx) : Nat := (l.map List.length).sum
theorem total_app (a b : List Tx) : total (a ++ b) = total a + total b := by unfold total; rw [List.map_append, List.sum_append]
theorem total_cons (t : Tx) (l : List Tx) : total (t :: l) = t.length + total l := by simp [total]
theorem total_mem (l : List Tx) (t : Tx) (h : t ∈ l) : t.length ≤ total l := by
  induction l with
  | nil => cases h
  | cons x l ih =>
    rw [total_cons]
    rcases List.mem_cons.1 h with rfl | h
    · omega
    · have := ih h; omega
def fits (l : List Tx) (t : Tx) : Bool := decide (l = []) || (decide (l.length < 6) && decide (total l + t.length ≤ 128))

section
variable (D : Blk → Tx) (N : Int → Int)
def flush (c : Blk) : Blk × List Blk := if c.2.2 = [] then (c, []) else ((N c.1, D c, []), [c])
def step (x : Blk × List Blk) (t : Tx) : Blk × List Blk :=
  if fits x.1.2.2 t = true then ((x.1.1, x.1.2.1, x.1.2.2 ++ [t]), x.2) else ((N x.1.1, D x.1, [t]), x.2 ++ [x.1])
def feed (c : Blk) (l : List Tx) : Blk × List Blk := l.foldl (step D N) (c, [])
def chained : List Blk → Int → Tx → Bool
  | [], _, _ => true
  | b :: l, n, p => decide (b.1 = n) && decide (b.2.1 = p) && chained l (N n) (D b)

theorem fold_out (l : List Tx) (c : Blk) (out : List Blk) : l.foldl (step D N) (c, out) = ((feed D N c l).1, out ++ (feed D N c l).2) := by
  unfold feed
  induction l generalizing c out with
  | nil => simp
  | cons t l ih =>
    rw [List.foldl_cons, List.foldl_cons]
    by_cases h : fits c.2.2 t = true
    · rw [step, step]
      simp only [h, if_true]
      rw [ih _ out, ih _ []]
    · rw [step, step]
      simp only [h]
      rw [if_neg (by simp), if_neg (by simp), ih _ (out ++ [c]), ih _ ([] ++ [c])]
      simp
theorem feed_app (c : Blk) (a b : List Tx) : feed D N c (a ++ b) = ((feed D N (feed D N c a).1 b).1, (feed D N c a).2 ++ (feed D N (feed D N c a).1 b).2) := by
  show (a ++ b).foldl (step D N) (c, []) = _
  rw [List.foldl_append]
  have e : a.foldl (step D N) (c, []) = ((feed D N c a).1, (feed D N c a).2) := rfl
  rw [e, fold_out]
theorem feed_step (c : Blk) (l : List Tx) (k : Nat) (h : k < l.length) : feed D N c (l.take (k + 1)) = step D N (feed D N c (l.take k)) l[k] := by
  rw [List.take_succ_eq_append_getElem h, feed, List.foldl_append]; rfl
theorem feed_len (c : Blk) (l : List Tx) (k : Nat) (hk : k ≤ l.length) : (feed D N c (l.take k)).2.length ≤ k ∧ (feed D N c (l.take k)).1.2.2.length ≤ c.2.2.length + k := by
  induction k with
  | zero => exact ⟨by simp [feed], by simp [feed]⟩
  | succ k ih =>
    obtain ⟨h1, h2⟩ := ih (by omega)
    rw [feed_step D N c l k (by omega), step]
    split
    · simp only [List.length_append, List.length_singleton]; omega
    · simp only [List.length_append, List.length_singleton]; omega

/-- One step: the transactions in order; the chain. -/
def texts (bs : List Blk) : List Tx := bs.flatMap (·.2.2)
theorem texts_app (a b : List Blk) : texts (a ++ b) = texts a ++ texts b := by unfold texts; rw [List.flatMap_append]
theorem step_texts (x : Blk × List Blk) (t : Tx) : texts (step D N x t).2 ++ (step D N x t).1.2.2 = texts x.2 ++ x.1.2.2 ++ [t] := by
  rw [step]
  split
  · simp
  · rw [texts_app]; simp [texts]
theorem feed_texts (c : Blk) (l : List Tx) : texts (feed D N c l).2 ++ (feed D N c l).1.2.2 = c.2.2 ++ l := by
  have key : ∀ k, k ≤ l.length → texts (feed D N c (l.take k)).2 ++ (feed D N c (l.take k)).1.2.2 = c.2.2 ++ l.take k := by
    intro k
    induction k with
    | zero => intro _; simp [feed, texts]
    | succ k ih =>
      intro hk
      rw [feed_step D N c l k (by omega), step_texts, ih (by omega), List.take_succ_eq_append_getElem (by omega), List.append_assoc]
  have := key l.length (Nat.le_refl _)
  rw [List.take_length] at this
  exact this
theorem chained_app (a b : List Blk) (n : Int) (p : Tx) : chained D N (a ++ b) n p = (chained D N a n p && chained D N b (a.foldl (fun m _ => N m) n) (match a.getLast? with | some x => D x | none => p)) := by
  induction a generalizing n p with
  | nil => simp [chained]
  | cons x a ih =>
    rw [List.cons_append, chained, chained, ih, List.foldl_cons, Bool.and_assoc, Bool.and_assoc, Bool.and_assoc]
    cases a with
    | nil => simp
    | cons y a => rw [List.getLast?_cons_cons]; simp [List.getLast?_cons]
/-- What was cut from c on is chained, and what waits goes on with it. -/
structure Inv (n0 : Int) (p0 : Tx) (x : Blk × List Blk) : Prop where
  chain : chained D N x.2 n0 p0 = true
  number : x.1.1 = x.2.foldl (fun m _ => N m) n0
  prev : x.1.2.1 = match x.2.getLast? with | some y => D y | none => p0
theorem Inv.start (c : Blk) : Inv D N c.1 c.2.1 (c, []) := ⟨rfl, rfl, rfl⟩
theorem Inv.cutOne {n0 : Int} {p0 : Tx} {x : Blk × List Blk} (h : Inv D N n0 p0 x) (l : List Tx) : Inv D N n0 p0 ((N x.1.1, D x.1, l), x.2 ++ [x.1]) := by
  refine ⟨?_, ?_, ?_⟩
  · rw [chained_app, h.chain, ← h.number, ← h.prev]
    simp [chained]
  · simp only [List.foldl_append, List.foldl_cons, List.foldl_nil, ← h.number]
  · simp
theorem Inv.step {n0 : Int} {p0 : Tx} {x : Blk × List Blk} (h : Inv D N n0 p0 x) (t : Tx) : Inv D N n0 p0 (step D N x t) := by
  rw [Ct.step]
  split
  · exact ⟨h.chain, h.number, h.prev⟩
  · exact h.cutOne D N [t]
/-- Each block that was cut fits its limits. -/
def good (b : Blk) : Prop := 1 ≤ b.2.2.length ∧ b.2.2.length ≤ 6 ∧ (total b.2.2 ≤ 128 ∨ b.2.2.length = 1)
def waits (b : Blk) : Prop := b.2.2.length ≤ 6 ∧ (total b.2.2 ≤ 128 ∨ b.2.2.length ≤ 1)
theorem fits_waits (c : Blk) (t : Tx) (h : fits c.2.2 t = true) : waits (c.1, c.2.1, c.2.2 ++ [t]) := by
  simp only [fits, Bool.or_eq_true, Bool.and_eq_true, decide_eq_true_iff] at h
  rcases h with h | ⟨h1, h2⟩
  · simp [waits, h]
  · refine ⟨by simp; omega, .inl ?_⟩
    rw [total_app]
    simp only [total_cons]
    simp [total] at h2 ⊢
    omega
theorem fits_false (l : List Tx) (t : Tx) (h : fits l t = false) : l ≠ [] := by
  intro e
  subst e
  simp [fits] at h
theorem waits_good (c : Blk) (h : waits c) (hn : c.2.2 ≠ []) : good c := by
  have : 1 ≤ c.2.2.length := by
    rcases Nat.eq_zero_or_pos c.2.2.length with e | e
    · exact absurd (List.length_eq_zero_iff.1 e) hn
    · exact e
  exact ⟨this, h.1, h.2.imp id (fun h => by omega)⟩
end
end Ct
