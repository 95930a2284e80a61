/- Sets of seats as bits: plain functions. No program is named here. -/
namespace Se

/-- The seats of a set among the first k. -/
def listTo (v : Nat) : Nat → List Nat
  | 0 => []
  | k + 1 => listTo v k ++ if v.testBit k then [k + 1] else []
def list (v : Nat) : List Nat := listTo v 64
def count (v : Nat) : Nat := (list v).length
/-- Is a seat in? -/
def has (v : Nat) (id : Int) : Bool := decide (1 ≤ id ∧ id ≤ 64) && v.testBit (id.toNat - 1)

theorem listTo_mem (v k x : Nat) : x ∈ listTo v k ↔ 1 ≤ x ∧ x ≤ k ∧ v.testBit (x - 1) = true := by
  induction k with
  | zero => simp [listTo]; omega
  | succ k ih =>
    rw [listTo, List.mem_append, ih]
    constructor
    · rintro (⟨h1, h2, h3⟩ | h)
      · exact ⟨h1, by omega, h3⟩
      · split at h
        · rename_i hb
          simp at h
          subst h
          exact ⟨by omega, by omega, by simpa using hb⟩
        · simp at h
    · rintro ⟨h1, h2, h3⟩
      by_cases e : x = k + 1
      · subst e
        right
        simp at h3
        simp [h3]
      · left
        exact ⟨h1, by omega, h3⟩
theorem list_mem (v x : Nat) : x ∈ list v ↔ 1 ≤ x ∧ x ≤ 64 ∧ v.testBit (x - 1) = true := listTo_mem v 64 x

theorem listTo_len (v k : Nat) : (listTo v k).length ≤ k := by
  induction k with
  | zero => simp [listTo]
  | succ k ih => rw [listTo, List.length_append]; split <;> simp <;> omega
theorem listTo_step (v k : Nat) : listTo v (k + 1) = listTo v k ++ if v.testBit k then [k + 1] else [] := rfl

theorem has_nat (v i : Nat) (h1 : 1 ≤ i) (h2 : i ≤ 64) : has v i = v.testBit (i - 1) := by
  have : (1 : Int) ≤ (i : Int) ∧ (i : Int) ≤ 64 := by omega
  simp [has, this]
theorem has_out (v : Nat) (id : Int) (h : id < 1 ∨ 64 < id) : has v id = false := by
  have : ¬ (1 ≤ id ∧ id ≤ 64) := by omega
  simp [has, this]
theorem has_iff (v : Nat) (id : Int) : has v id = true ↔ ∃ i ∈ list v, id = (i : Int) := by
  constructor
  · intro h
    simp only [has, Bool.and_eq_true, decide_eq_true_eq] at h
    refine ⟨id.toNat, (list_mem _ _).2 ⟨by omega, by omega, h.2⟩, by omega⟩
  · rintro ⟨i, hi, rfl⟩
    obtain ⟨h1, h2, h3⟩ := (list_mem _ _).1 hi
    rw [has_nat v i h1 h2, h3]

/-- The bits behind k halvings. -/
theorem half_bit (v k : Nat) : (v / 2 ^ k % 2 = 1) ↔ v.testBit k = true := by
  rw [Nat.testBit_eq_decide_div_mod_eq]; simp

theorem countTo_sum (a b k : Nat) : (listTo (a ||| b) k).length + (listTo (a &&& b) k).length = (listTo a k).length + (listTo b k).length := by
  induction k with
  | zero => simp [listTo]
  | succ k ih =>
    simp only [listTo, List.length_append, Nat.testBit_or, Nat.testBit_and]
    cases ha : a.testBit k <;> cases hb : b.testBit k <;> simp <;> omega
theorem count_sum (a b : Nat) : count (a ||| b) + count (a &&& b) = count a + count b := countTo_sum a b 64

theorem listTo_same (a b k : Nat) (h : ∀ i, i < k → a.testBit i = b.testBit i) : listTo a k = listTo b k := by
  induction k with
  | zero => rfl
  | succ k ih => rw [listTo, listTo, ih (fun i hi => h i (by omega)), h k (by omega)]
theorem bits_above (v i : Nat) (hv : v < 18446744073709551616) (hi : 64 ≤ i) : v.testBit i = false := by
  apply Nat.testBit_lt_two_pow
  exact Nat.lt_of_lt_of_le hv (Nat.pow_le_pow_right (n := 2) (by omega) hi)
theorem list_inj (a b : Nat) (ha : a < 18446744073709551616) (hb : b < 18446744073709551616) (h : list a = list b) : a = b := by
  apply Nat.eq_of_testBit_eq
  intro i
  by_cases hi : i < 64
  · have h1 := list_mem a (i + 1)
    have h2 := list_mem b (i + 1)
    rw [h] at h1
    simp only [Nat.add_sub_cancel] at h1 h2
    have : a.testBit i = true ↔ b.testBit i = true := by
      constructor
      · intro hx; exact (h2.1 (h1.2 ⟨by omega, by omega, hx⟩)).2.2
      · intro hx; exact (h1.1 (h2.2 ⟨by omega, by omega, hx⟩)).2.2
    exact Bool.eq_iff_iff.2 this
  · rw [bits_above a i ha (by omega), bits_above b i hb (by omega)]

/-- A seat put in. -/
def put (v i : Nat) : Nat := v ||| 2 ^ (i - 1)
theorem put_bit (v i j : Nat) : (put v i).testBit j = (v.testBit j || decide (i - 1 = j)) := by
  simp only [put, Nat.testBit_or, Nat.testBit_two_pow]
theorem put_there (v i : Nat) (h : v.testBit (i - 1) = true) : put v i = v := by
  apply Nat.eq_of_testBit_eq
  intro j
  rw [put_bit]
  by_cases e : i - 1 = j
  · subst e; simp [h]
  · simp [e]
theorem add_or (a b : Nat) (h : a &&& b = 0) : a + b = a ||| b := by
  have l : ∀ n : Nat, n < 2 ^ n := fun n => Nat.lt_two_pow_self
  have e := BitVec.add_eq_or_of_and_eq_zero (w := a + b + 1) (BitVec.ofNat _ a) (BitVec.ofNat _ b) (by
    apply BitVec.eq_of_toNat_eq
    have la : a < 2 ^ (a + b + 1) := Nat.lt_of_lt_of_le (l a) (Nat.pow_le_pow_right (by omega) (by omega))
    have lb : b < 2 ^ (a + b + 1) := Nat.lt_of_lt_of_le (l b) (Nat.pow_le_pow_right (by omega) (by omega))
    simp only [BitVec.toNat_and, BitVec.toNat_ofNat, Nat.mod_eq_of_lt la, Nat.mod_eq_of_lt lb, h]
    simp)
  have e2 := congrArg BitVec.toNat e
  have la : a < 2 ^ (a + b + 1) := Nat.lt_of_lt_of_le (l a) (Nat.pow_le_pow_right (by omega) (by omega))
  have lb : b < 2 ^ (a + b + 1) := Nat.lt_of_lt_of_le (l b) (Nat.pow_le_pow_right (by omega) (by omega))
  have lc : a + b < 2 ^ (a + b + 1) := Nat.lt_of_lt_of_le (l (a + b)) (Nat.pow_le_pow_right (by omega) (by omega))
  simpa only [BitVec.toNat_add, BitVec.toNat_or, BitVec.toNat_ofNat, Nat.mod_eq_of_lt la, Nat.mod_eq_of_lt lb, Nat.mod_eq_of_lt lc] using e2
theorem put_add (v i : Nat) (h : v.testBit (i - 1) = false) : put v i = v + 2 ^ (i - 1) := by
  have hd : v &&& 2 ^ (i - 1) = 0 := by
    apply Nat.eq_of_testBit_eq
    intro j
    simp only [Nat.testBit_and, Nat.testBit_two_pow, Nat.zero_testBit]
    by_cases e : i - 1 = j
    · subst e; simp [h]
    · simp [e]
  rw [put, add_or v _ hd]
theorem put_lt (v i : Nat) (hv : v < 18446744073709551616) (h1 : 1 ≤ i) (h2 : i ≤ 64) : put v i < 18446744073709551616 := by
  have e : 18446744073709551616 = 2 ^ 64 := by decide
  rw [e] at hv ⊢
  exact Nat.or_lt_two_pow hv (Nat.pow_lt_pow_right (by omega) (by omega))
theorem has_put (v i : Nat) (id : Int) (h1 : 1 ≤ i) (h2 : i ≤ 64) : has (put v i) id = (has v id || decide (id = (i : Int))) := by
  by_cases hr : 1 ≤ id ∧ id ≤ 64
  · obtain ⟨k, rfl⟩ := Int.eq_ofNat_of_zero_le (show 0 ≤ id by omega)
    rw [has_nat _ k (by omega) (by omega), has_nat _ k (by omega) (by omega), put_bit]
    congr 1
    rw [decide_eq_decide]
    omega
  · rw [has_out _ id (by omega), has_out _ id (by omega)]
    have : ¬ id = (i : Int) := by omega
    simp [this]

/-- The set of a list; none, where an element is no seat. -/
def ofL : List Int → Nat → Option Nat
  | [], v => some v
  | x :: l, v => if 1 ≤ x ∧ x ≤ 64 then ofL l (put v x.toNat) else none
/-- What 'Of' answers. -/
def of (l : List Int) : Nat × Nat := match ofL l 0 with | some v => (v, 0) | none => (0, 1)
def within (v : Nat) (n : Int) : Bool := decide (0 ≤ n ∧ n ≤ 64) && (list v).all fun i => decide ((i : Int) ≤ n)
def may (n : Int) : Bool := decide (4 ≤ n ∧ n ≤ 64) && decide (n.toNat % 3 = 1)
def faults (n : Int) : Int := if may n then (n - 1) / 3 else 0
def quorum (n : Int) : Int := if may n then n - (n - 1) / 3 else 0
def weak (n : Int) : Int := if may n then (n - 1) / 3 + 1 else 0
end Se
namespace Se
/-- What 'Put' answers. -/
def putR (v : Nat) (id : Int) : Nat × Nat := if 1 ≤ id ∧ id ≤ 64 then (put v id.toNat, 0) else (0, 1)
theorem ofL_put (x : Int) (l : List Int) (v : Nat) (h : 1 ≤ x ∧ x ≤ 64) : ofL (x :: l) v = ofL l (put v x.toNat) := by rw [ofL, if_pos h]
theorem ofL_bad (x : Int) (l : List Int) (v : Nat) (h : ¬ (1 ≤ x ∧ x ≤ 64)) : ofL (x :: l) v = none := by rw [ofL, if_neg h]
theorem listTo_up (v k : Nat) : (listTo v k).Pairwise (· < ·) := by
  induction k with
  | zero => simp [listTo]
  | succ k ih =>
    rw [listTo]
    split
    · rw [List.pairwise_append]
      refine ⟨ih, by simp, ?_⟩
      intro a ha b hb
      simp at hb
      subst hb
      have := (listTo_mem v k a).1 ha
      omega
    · simpa using ih
theorem list_up (v : Nat) : (list v).Pairwise (· < ·) := listTo_up v 64
theorem all_last (l : List Nat) (h : l.length - 1 < l.length) (hp : l.Pairwise (· < ·)) (n : Int) : (l.all fun i => decide ((i : Int) ≤ n)) = decide ((l[l.length - 1] : Nat) ≤ n) := by
  rw [Bool.eq_iff_iff, List.all_eq_true, decide_eq_true_iff]
  constructor
  · intro ha
    simpa using ha _ (List.getElem_mem h)
  · intro hn x hx
    obtain ⟨j, hj, rfl⟩ := List.getElem_of_mem hx
    rw [decide_eq_true_iff]
    rcases Nat.lt_or_ge j (l.length - 1) with e | e
    · have := List.pairwise_iff_getElem.1 hp j (l.length - 1) hj h e
      omega
    · have e2 : j = l.length - 1 := by omega
      simp only [e2]
      exact hn
end Se
namespace Se
theorem count_le (v : Nat) : count v ≤ 64 := listTo_len v 64
end Se
