/- Sets of seats, more: what quorums have in common, what is put in, what is taken out. No program is named here. -/
import Derived.Test.YtflmfbcjmjlkbaaDoorSeatMath
namespace Se

theorem count_zero : count 0 = 0 := by decide

theorem listTo_put (v i k : Nat) (h1 : 1 ≤ i) (h : v.testBit (i - 1) = false) : (listTo (put v i) k).length = (listTo v k).length + if i ≤ k then 1 else 0 := by
  induction k with
  | zero => simp [listTo]; omega
  | succ k ih =>
    simp only [listTo, List.length_append, put_bit, ih]
    by_cases e : i - 1 = k
    · subst e
      rw [h]
      have a1 : ¬ i ≤ i - 1 := by omega
      have a2 : i ≤ i - 1 + 1 := by omega
      simp [a1, a2]
    · have e2 : (i ≤ k + 1) ↔ (i ≤ k) := by omega
      simp only [e, decide_false, Bool.or_false, e2]
      omega
theorem count_put (v i : Nat) (h1 : 1 ≤ i) (h2 : i ≤ 64) (h : v.testBit (i - 1) = false) : count (put v i) = count v + 1 := by
  have := listTo_put v i 64 h1 h
  rw [if_pos h2] at this
  exact this

theorem within_iff (v : Nat) (n : Int) (h : 0 ≤ n ∧ n ≤ 64) : within v n = true ↔ ∀ i ∈ list v, (i : Int) ≤ n := by
  simp [within, h]
theorem listTo_within (v : Nat) (m k : Nat) (hv : ∀ i, i < k → v.testBit i = true → i < m) : (listTo v k).length ≤ m := by
  have h : ∀ j, j ≤ k → (listTo v j).length ≤ min j m := by
    intro j
    induction j with
    | zero => simp [listTo]
    | succ j ih =>
      intro hj
      have := ih (by omega)
      rw [listTo, List.length_append]
      split
      · rename_i hb
        have := hv j (by omega) hb
        simp; omega
      · simp; omega
  have := h k (Nat.le_refl _)
  omega
theorem count_within (v : Nat) (n : Int) (h : 0 ≤ n ∧ n ≤ 64) (hw : within v n = true) : (count v : Int) ≤ n := by
  obtain ⟨m, rfl⟩ := Int.eq_ofNat_of_zero_le h.1
  have := listTo_within v m 64 (fun i hi hb => by
    have := (within_iff v m h).1 hw (i + 1) ((list_mem v (i + 1)).2 ⟨by omega, by omega, by simpa using hb⟩)
    omega)
  have : count v ≤ m := this
  omega
theorem within_or (a b : Nat) (n : Int) (h : 0 ≤ n ∧ n ≤ 64) (ha : within a n = true) (hb : within b n = true) : within (a ||| b) n = true := by
  rw [within_iff _ _ h] at *
  intro i hi
  obtain ⟨h1, h2, h3⟩ := (list_mem _ _).1 hi
  rw [Nat.testBit_or, Bool.or_eq_true] at h3
  rcases h3 with h3 | h3
  · exact ha i ((list_mem _ _).2 ⟨h1, h2, h3⟩)
  · exact hb i ((list_mem _ _).2 ⟨h1, h2, h3⟩)

theorem may_form (n : Int) (h : may n = true) : ∃ f : Nat, n = 3 * f + 1 ∧ faults n = f ∧ quorum n = 2 * f + 1 ∧ weak n = f + 1 ∧ 0 ≤ n ∧ n ≤ 64 := by
  have h' := h
  simp only [may, Bool.and_eq_true, decide_eq_true_iff] at h'
  refine ⟨((n - 1) / 3).toNat, by omega, ?_, ?_, ?_, by omega, by omega⟩
  · rw [faults, if_pos h]; omega
  · rw [quorum, if_pos h]; omega
  · rw [weak, if_pos h]; omega
theorem meet_quorum (n : Int) (a b : Nat) (h : may n = true) (ha : within a n = true) (hb : within b n = true) (ca : quorum n ≤ count a) (cb : quorum n ≤ count b) : weak n ≤ count (a &&& b) := by
  obtain ⟨f, hn, _, hq, hw, h0, h64⟩ := may_form n h
  have := count_within (a ||| b) n ⟨h0, h64⟩ (within_or a b n ⟨h0, h64⟩ ha hb)
  have := count_sum a b
  omega
theorem meet_weak (n : Int) (a b : Nat) (h : may n = true) (ha : within a n = true) (hb : within b n = true) (ca : quorum n ≤ count a) (cb : weak n ≤ count b) : a &&& b ≠ 0 := by
  obtain ⟨f, hn, _, hq, hw, h0, h64⟩ := may_form n h
  have := count_within (a ||| b) n ⟨h0, h64⟩ (within_or a b n ⟨h0, h64⟩ ha hb)
  have := count_sum a b
  intro e
  rw [e, count_zero] at this
  omega

/-- The set of a set's list is the set. -/
theorem ofL_list (v : Nat) (hv : v < 18446744073709551616) : of ((list v).map fun (i : Nat) => (i : Int)) = (v, 0) := by
  have h : ∀ (l : List Nat) (u : Nat), (∀ i ∈ l, 1 ≤ i ∧ i ≤ 64) → ∃ w, ofL (l.map fun (i : Nat) => (i : Int)) u = some w ∧ ∀ j, w.testBit j = (u.testBit j || l.any fun i => decide (i - 1 = j)) := by
    intro l
    induction l with
    | nil => intro u _; exact ⟨u, rfl, fun j => by simp⟩
    | cons x l ih =>
      intro u hl
      have hx := hl x (by simp)
      obtain ⟨w, hw, hb⟩ := ih (put u x) (fun i hi => hl i (by simp [hi]))
      refine ⟨w, ?_, fun j => ?_⟩
      · rw [List.map_cons, ofL_put _ _ _ (by omega), Int.toNat_natCast]; exact hw
      · rw [hb j, put_bit, List.any_cons, Bool.or_assoc]
  obtain ⟨w, hw, hb⟩ := h (list v) 0 (fun i hi => by have := (list_mem v i).1 hi; omega)
  have e : w = v := by
    apply Nat.eq_of_testBit_eq
    intro j
    rw [hb j, Nat.zero_testBit, Bool.false_or, Bool.eq_iff_iff, List.any_eq_true]
    constructor
    · rintro ⟨i, hi, hd⟩
      obtain ⟨h1, _, h3⟩ := (list_mem v i).1 hi
      rw [decide_eq_true_iff] at hd
      rwa [hd] at h3
    · intro hj
      have hlt : j < 64 := by
        rcases Nat.lt_or_ge j 64 with h | h
        · exact h
        · rw [bits_above v j hv h] at hj; cases hj
      exact ⟨j + 1, (list_mem v _).2 ⟨by omega, by omega, by simpa using hj⟩, by simp⟩
  rw [of, hw, e]
theorem within_all (v : Nat) : within v 64 = true := by
  rw [within_iff _ _ (by omega)]
  intro i hi
  have := (list_mem v i).1 hi
  omega

/-- The first m seats. -/
def first : Nat → Nat
  | 0 => 0
  | m + 1 => put (first m) (m + 1)
theorem first_bit (m j : Nat) : (first m).testBit j = decide (j < m) := by
  induction m with
  | zero => simp [first]
  | succ m ih =>
    rw [first, put_bit, ih, Nat.add_sub_cancel, Bool.eq_iff_iff]
    simp only [Bool.or_eq_true, decide_eq_true_iff]
    omega
theorem first_lt (m : Nat) (h : m ≤ 64) : first m < 18446744073709551616 := by
  induction m with
  | zero => simp [first]
  | succ m ih => exact put_lt _ _ (ih (by omega)) (by omega) h
theorem first_count (m : Nat) (h : m ≤ 64) : count (first m) = m := by
  induction m with
  | zero => decide
  | succ m ih => rw [first, count_put _ _ (by omega) h (by rw [first_bit]; simp), ih (by omega)]

/-- A set without what it has in common with another one. -/
theorem sub_and (x y : Nat) : x - (x &&& y) = x ^^^ (x &&& y) := by
  have hd : (x &&& y) &&& (x ^^^ (x &&& y)) = 0 := by
    apply Nat.eq_of_testBit_eq
    intro j
    simp only [Nat.testBit_and, Nat.testBit_xor, Nat.zero_testBit]
    cases x.testBit j <;> cases y.testBit j <;> rfl
  have hs := add_or _ _ hd
  have ho : (x &&& y) ||| (x ^^^ (x &&& y)) = x := by
    apply Nat.eq_of_testBit_eq
    intro j
    simp only [Nat.testBit_or, Nat.testBit_and, Nat.testBit_xor]
    cases x.testBit j <;> cases y.testBit j <;> rfl
  rw [ho] at hs
  omega
theorem count_sub (x y : Nat) : count (x - (x &&& y)) + count (x &&& y) = count x := by
  have h := count_sum (x - (x &&& y)) (x &&& y)
  have e1 : (x - (x &&& y)) ||| (x &&& y) = x := by
    rw [sub_and]
    apply Nat.eq_of_testBit_eq
    intro j
    simp only [Nat.testBit_or, Nat.testBit_and, Nat.testBit_xor]
    cases x.testBit j <;> cases y.testBit j <;> rfl
  have e2 : (x - (x &&& y)) &&& (x &&& y) = 0 := by
    rw [sub_and]
    apply Nat.eq_of_testBit_eq
    intro j
    simp only [Nat.testBit_and, Nat.testBit_xor, Nat.zero_testBit]
    cases x.testBit j <;> cases y.testBit j <;> rfl
  rw [e1, e2, count_zero] at h
  omega
theorem first_within (v m : Nat) (hv : v < 18446744073709551616) (hm : m ≤ 64) (hw : within v m = true) : first m &&& v = v := by
  apply Nat.eq_of_testBit_eq
  intro j
  rw [Nat.testBit_and, first_bit]
  by_cases hb : v.testBit j = true
  · have hlt : j < 64 := by
      rcases Nat.lt_or_ge j 64 with h | h
      · exact h
      · rw [bits_above v j hv h] at hb; cases hb
    have := (within_iff v m (by omega)).1 hw (j + 1) ((list_mem v _).2 ⟨by omega, by omega, by simpa using hb⟩)
    have : j < m := by omega
    simp [hb, this]
  · simp [hb]
theorem count_and_le (x y : Nat) : count (x &&& y) ≤ count y := by
  have := count_sub y x
  rw [Nat.and_comm] at this
  omega
theorem honest_all (n : Int) (m v : Nat) (hn : n = m) (h : may n = true) (hv : v < 18446744073709551616) (hw : within v n = true) (hc : (count v : Int) ≤ faults n) : quorum n ≤ count (first m - v) := by
  subst hn
  obtain ⟨f, hf, h1, h2, _, h0, h64⟩ := may_form _ h
  have e := first_within v m hv (by omega) hw
  have := count_sub (first m) v
  rw [e, first_count m (by omega)] at this
  omega
theorem honest_weak (n : Int) (a v : Nat) (h : may n = true) (hc : (count v : Int) ≤ faults n) (ha : quorum n ≤ count a) : weak n ≤ count (a - (a &&& v)) := by
  obtain ⟨f, _, h1, h2, h3, _, _⟩ := may_form n h
  have := count_sub a v
  have := count_and_le a v
  omega
end Se
