/- SeatMath, VtxMath, TyS, DigLess, OpenRows, in one. -/
import Derived.Test.YtbkpekpajeaacaaGBat
import Derived.Test.YtbkpekpajeaacaaGDig
import Derived.RangeFuncBox
import Derived.Deep.Slices
import Derived.Deep.Fields
import Derived.Lib.SmallJoins
section
/- Sets of seats as bits: plain functions. No program is named here. -/
namespace Se

/-- The seats of a set among the first k. -/
def listTo (v : Nat) : Nat → List Nat
  | 0 => []
  | k + 1 => listTo v k ++ if v.testBit k then [k + 1] else []
def list (v : Nat) : List Nat := listTo v 64
def count (v : Nat) : Nat := (list v).length
/-- Is a seat in? -/
def has (v : Nat) (id : Int) : Bool := decide (1 ≤ id ∧ id ≤ 64) && v.testBit (id.toNat - 1)

theorem listTo_mem (v k x : Nat) : x ∈ listTo v k ↔ 1 ≤ x ∧ x ≤ k ∧ v.testBit (x - 1) = true := by
  induction k with
  | zero => simp [listTo]; omega
  | succ k ih =>
    rw [listTo, List.mem_append, ih]
    constructor
    · rintro (⟨h1, h2, h3⟩ | h)
      · exact ⟨h1, by omega, h3⟩
      · split at h
        · rename_i hb
          simp at h
          subst h
          exact ⟨by omega, by omega, by simpa using hb⟩
        · simp at h
    · rintro ⟨h1, h2, h3⟩
      by_cases e : x = k + 1
      · subst e
        right
        simp at h3
        simp [h3]
      · left
        exact ⟨h1, by omega, h3⟩
theorem list_mem (v x : Nat) : x ∈ list v ↔ 1 ≤ x ∧ x ≤ 64 ∧ v.testBit (x - 1) = true := listTo_mem v 64 x

theorem listTo_len (v k : Nat) : (listTo v k).length ≤ k := by
  induction k with
  | zero => simp [listTo]
  | succ k ih => rw [listTo, List.length_append]; split <;> simp <;> omega
theorem listTo_step (v k : Nat) : listTo v (k + 1) = listTo v k ++ if v.testBit k then [k + 1] else [] := rfl

theorem has_nat (v i : Nat) (h1 : 1 ≤ i) (h2 : i ≤ 64) : has v i = v.testBit (i - 1) := by
  have : (1 : Int) ≤ (i : Int) ∧ (i : Int) ≤ 64 := by omega
  simp [has, this]
theorem has_out (v : Nat) (id : Int) (h : id < 1 ∨ 64 < id) : has v id = false := by
  have : ¬ (1 ≤ id ∧ id ≤ 64) := by omega
  simp [has, this]
theorem has_iff (v : Nat) (id : Int) : has v id = true ↔ ∃ i ∈ list v, id = (i : Int) := by
  constructor
  · intro h
    simp only [has, Bool.and_eq_true, decide_eq_true_eq] at h
    refine ⟨id.toNat, (list_mem _ _).2 ⟨by omega, by omega, h.2⟩, by omega⟩
  · rintro ⟨i, hi, rfl⟩
    obtain ⟨h1, h2, h3⟩ := (list_mem _ _).1 hi
    rw [has_nat v i h1 h2, h3]

/-- The bits behind k halvings. -/
theorem half_bit (v k : Nat) : (v / 2 ^ k % 2 = 1) ↔ v.testBit k = true := by
  rw [Nat.testBit_eq_decide_div_mod_eq]; simp

theorem countTo_sum (a b k : Nat) : (listTo (a ||| b) k).length + (listTo (a &&& b) k).length = (listTo a k).length + (listTo b k).length := by
  induction k with
  | zero => simp [listTo]
  | succ k ih =>
    simp only [listTo, List.length_append, Nat.testBit_or, Nat.testBit_and]
    cases ha : a.testBit k <;> cases hb : b.testBit k <;> simp <;> omega
theorem count_sum (a b : Nat) : count (a ||| b) + count (a &&& b) = count a + count b := countTo_sum a b 64

theorem listTo_same (a b k : Nat) (h : ∀ i, i < k → a.testBit i = b.testBit i) : listTo a k = listTo b k := by
  induction k with
  | zero => rfl
  | succ k ih => rw [listTo, listTo, ih (fun i hi => h i (by omega)), h k (by omega)]
theorem bits_above (v i : Nat) (hv : v < 18446744073709551616) (hi : 64 ≤ i) : v.testBit i = false := by
  apply Nat.testBit_lt_two_pow
  exact Nat.lt_of_lt_of_le hv (Nat.pow_le_pow_right (n := 2) (by omega) hi)
theorem list_inj (a b : Nat) (ha : a < 18446744073709551616) (hb : b < 18446744073709551616) (h : list a = list b) : a = b := by
  apply Nat.eq_of_testBit_eq
  intro i
  by_cases hi : i < 64
  · have h1 := list_mem a (i + 1)
    have h2 := list_mem b (i + 1)
    rw [h] at h1
    simp only [Nat.add_sub_cancel] at h1 h2
    have : a.testBit i = true ↔ b.testBit i = true := by
      constructor
      · intro hx; exact (h2.1 (h1.2 ⟨by omega, by omega, hx⟩)).2.2
      · intro hx; exact (h1.1 (h2.2 ⟨by omega, by omega, hx⟩)).2.2
    exact Bool.eq_iff_iff.2 this
  · rw [bits_above a i ha (by omega), bits_above b i hb (by omega)]

/-- A seat put in. -/
def put (v i : Nat) : Nat := v ||| 2 ^ (i - 1)
theorem put_bit (v i j : Nat) : (put v i).testBit j = (v.testBit j || decide (i - 1 = j)) := by
  simp only [put, Nat.testBit_or, Nat.testBit_two_pow]
theorem put_there (v i : Nat) (h : v.testBit (i - 1) = true) : put v i = v := by
  apply Nat.eq_of_testBit_eq
  intro j
  rw [put_bit]
  by_cases e : i - 1 = j
  · subst e; simp [h]
  · simp [e]
theorem add_or (a b : Nat) (h : a &&& b = 0) : a + b = a ||| b := by
  have l : ∀ n : Nat, n < 2 ^ n := fun n => Nat.lt_two_pow_self
  have e := BitVec.add_eq_or_of_and_eq_zero (w := a + b + 1) (BitVec.ofNat _ a) (BitVec.ofNat _ b) (by
    apply BitVec.eq_of_toNat_eq
    have la : a < 2 ^ (a + b + 1) := Nat.lt_of_lt_of_le (l a) (Nat.pow_le_pow_right (by omega) (by omega))
    have lb : b < 2 ^ (a + b + 1) := Nat.lt_of_lt_of_le (l b) (Nat.pow_le_pow_right (by omega) (by omega))
    simp only [BitVec.toNat_and, BitVec.toNat_ofNat, Nat.mod_eq_of_lt la, Nat.mod_eq_of_lt lb, h]
    simp)
  have e2 := congrArg BitVec.toNat e
  have la : a < 2 ^ (a + b + 1) := Nat.lt_of_lt_of_le (l a) (Nat.pow_le_pow_right (by omega) (by omega))
  have lb : b < 2 ^ (a + b + 1) := Nat.lt_of_lt_of_le (l b) (Nat.pow_le_pow_right (by omega) (by omega))
  have lc : a + b < 2 ^ (a + b + 1) := Nat.lt_of_lt_of_le (l (a + b)) (Nat.pow_le_pow_right (by omega) (by omega))
  simpa only [BitVec.toNat_add, BitVec.toNat_or, BitVec.toNat_ofNat, Nat.mod_eq_of_lt la, Nat.mod_eq_of_lt lb, Nat.mod_eq_of_lt lc] using e2
theorem put_add (v i : Nat) (h : v.testBit (i - 1) = false) : put v i = v + 2 ^ (i - 1) := by
  have hd : v &&& 2 ^ (i - 1) = 0 := by
    apply Nat.eq_of_testBit_eq
    intro j
    simp only [Nat.testBit_and, Nat.testBit_two_pow, Nat.zero_testBit]
    by_cases e : i - 1 = j
    · subst e; simp [h]
    · simp [e]
  rw [put, add_or v _ hd]
theorem put_lt (v i : Nat) (hv : v < 18446744073709551616) (h1 : 1 ≤ i) (h2 : i ≤ 64) : put v i < 18446744073709551616 := by
  have e : 18446744073709551616 = 2 ^ 64 := by decide
  rw [e] at hv ⊢
  exact Nat.or_lt_two_pow hv (Nat.pow_lt_pow_right (by omega) (by omega))
theorem has_put (v i : Nat) (id : Int) (h1 : 1 ≤ i) (h2 : i ≤ 64) : has (put v i) id = (has v id || decide (id = (i : Int))) := by
  by_cases hr : 1 ≤ id ∧ id ≤ 64
  · obtain ⟨k, rfl⟩ := Int.eq_ofNat_of_zero_le (show 0 ≤ id by omega)
    rw [has_nat _ k (by omega) (by omega), has_nat _ k (by omega) (by omega), put_bit]
    congr 1
    rw [decide_eq_decide]
    omega
  · rw [has_out _ id (by omega), has_out _ id (by omega)]
    have : ¬ id = (i : Int) := by omega
    simp [this]

/-- The set of a list; none, where an element is no seat. -/
def ofL : List Int → Nat → Option Nat
  | [], v => some v
  | x :: l, v => if 1 ≤ x ∧ x ≤ 64 then ofL l (put v x.toNat) else none
/-- What 'Of' answers. -/
def of (l : List Int) : Nat × Nat := match ofL l 0 with | some v => (v, 0) | none => (0, 1)
def within (v : Nat) (n : Int) : Bool := decide (0 ≤ n ∧ n ≤ 64) && (list v).all fun i => decide ((i : Int) ≤ n)
def may (n : Int) : Bool := decide (4 ≤ n ∧ n ≤ 64) && decide (n.toNat % 3 = 1)
def faults (n : Int) : Int := if may n then (n - 1) / 3 else 0
def quorum (n : Int) : Int := if may n then n - (n - 1) / 3 else 0
def weak (n : Int) : Int := if may n then (n - 1) / 3 + 1 else 0
end Se
namespace Se
/-- What 'Put' answers. -/
def putR (v : Nat) (id : Int) : Nat × Nat := if 1 ≤ id ∧ id ≤ 64 then (put v id.toNat, 0) else (0, 1)
theorem ofL_put (x : Int) (l : List Int) (v : Nat) (h : 1 ≤ x ∧ x ≤ 64) : ofL (x :: l) v = ofL l (put v x.toNat) := by rw [ofL, if_pos h]
theorem ofL_bad (x : Int) (l : List Int) (v : Nat) (h : ¬ (1 ≤ x ∧ x ≤ 64)) : ofL (x :: l) v = none := by rw [ofL, if_neg h]
theorem listTo_up (v k : Nat) : (listTo v k).Pairwise (· < ·) := by
  induction k with
  | zero => simp [listTo]
  | succ k ih =>
    rw [listTo]
    split
    · rw [List.pairwise_append]
      refine ⟨ih, by simp, ?_⟩
      intro a ha b hb
      simp at hb
      subst hb
      have := (listTo_mem v k a).1 ha
      omega
    · simpa using ih
theorem list_up (v : Nat) : (list v).Pairwise (· < ·) := listTo_up v 64
theorem all_last (l : List Nat) (h : l.length - 1 < l.length) (hp : l.Pairwise (· < ·)) (n : Int) : (l.all fun i => decide ((i : Int) ≤ n)) = decide ((l[l.length - 1] : Nat) ≤ n) := by
  rw [Bool.eq_iff_iff, List.all_eq_true, decide_eq_true_iff]
  constructor
  · intro ha
    simpa using ha _ (List.getElem_mem h)
  · intro hn x hx
    obtain ⟨j, hj, rfl⟩ := List.getElem_of_mem hx
    rw [decide_eq_true_iff]
    rcases Nat.lt_or_ge j (l.length - 1) with e | e
    · have := List.pairwise_iff_getElem.1 hp j (l.length - 1) hj h e
      omega
    · have e2 : j = l.length - 1 := by omega
      simp only [e2]
      exact hn
end Se
namespace Se
theorem count_le (v : Nat) : count v ≤ 64 := listTo_len v 64
end Se
end
section
/- Vertices as bytes, and back: plain functions. No program is named here. -/
namespace Vt
open Dg Bt

/-- Author, round, batches, parents, the share's two parts. -/
abbrev Vtx := Int × Int × List Bat × List (List UInt8) × Int × Int
def third (r : Int) : Bool := decide (0 < r ∧ r % 3 = 0)
def wrongB (n : Int) (b : Bat) : Bool := !Bt.may b || decide (n < b.1)
def allB (n : Int) (l : List Bat) : Bool := decide (∀ b ∈ l, wrongB n b = false)
def mayB (n : Int) (l : List Bat) : Bool := decide (l.length ≤ 4) && allB n l
/-- The text at place i may stand there. -/
def okP (l : List (List UInt8)) (i : Nat) : Prop := ∀ h : i < l.length, l[i].length = 32 ∧ (∀ _ : 0 < i, less l[i - 1] l[i] = true)
def asc (l : List (List UInt8)) : Prop := ∀ i, okP l i
open Classical in
noncomputable def mayP (r n : Int) (l : List (List UInt8)) : Bool := if r = 1 then decide (l.length = 0) else decide (Se.quorum n ≤ l.length ∧ (l.length : Int) ≤ n) && decide (asc l)
def elemMay (x y : Int) : Bool := decide (0 ≤ x ∧ x < 10007 ∧ 0 ≤ y ∧ y < 10007)
def mayS (r x y : Int) : Bool := elemMay x y && (third r || decide (x = 0 ∧ y = 0))
noncomputable def may (v : Vtx) (n : Int) : Bool := Se.may n && (decide (1 ≤ v.1 ∧ v.1 ≤ n) && (decide (1 ≤ v.2.1 ∧ v.2.1 ≤ 1048576) && (mayB n v.2.2.1 && (mayP v.2.1 n v.2.2.2.1 && mayS v.2.1 v.2.2.2.2.1 v.2.2.2.2.2))))

def bytes (v : Vtx) : List UInt8 := num v.1.toNat ++ (num v.2.1.toNat ++ (row (v.2.2.1.map Bt.bytes) ++ (row v.2.2.2.1 ++ (num v.2.2.2.2.1.toNat ++ num v.2.2.2.2.2.toNat))))
noncomputable def bytesR (v : Vtx) (n : Int) : List UInt8 × Nat := if may v n = true then (bytes v, 0) else ([], 1)
theorem bytesR_ok {v : Vtx} {n : Int} (h : may v n = true) : bytesR v n = (bytes v, 0) := by rw [bytesR, if_pos h]
theorem bytesR_no {v : Vtx} {n : Int} (h : may v n = false) : bytesR v n = ([], 1) := by rw [bytesR, if_neg (by simp [h])]
theorem bytesR_cases (v : Vtx) (n : Int) : (may v n = true ∧ bytesR v n = (bytes v, 0)) ∨ (may v n = false ∧ bytesR v n = ([], 1)) := by
  cases h : may v n with
  | true => exact .inl ⟨rfl, bytesR_ok h⟩
  | false => exact .inr ⟨rfl, bytesR_no h⟩

theorem seatsMay_le {n : Int} (h : Se.may n = true) : 4 ≤ n ∧ n ≤ 64 := by
  simp only [Se.may, Bool.and_eq_true, decide_eq_true_iff] at h; omega

structure Fits (v : Vtx) (n : Int) : Prop where
  n1 : 4 ≤ n
  n2 : n ≤ 64
  a1 : 1 ≤ v.1
  a2 : v.1 ≤ n
  r1 : 1 ≤ v.2.1
  r2 : v.2.1 ≤ 1048576
  b1 : v.2.2.1.length ≤ 4
  b2 : ∀ b ∈ v.2.2.1, Bt.may b = true
  p1 : (v.2.2.2.1.length : Int) ≤ n
  p2 : ∀ t ∈ v.2.2.2.1, t.length = 32
  x1 : 0 ≤ v.2.2.2.2.1
  x2 : v.2.2.2.2.1 < 10007
  y1 : 0 ≤ v.2.2.2.2.2
  y2 : v.2.2.2.2.2 < 10007
theorem fits {v : Vtx} {n : Int} (h : may v n = true) : Fits v n := by
  simp only [may, mayB, allB, mayS, elemMay, Bool.and_eq_true, decide_eq_true_iff] at h
  obtain ⟨h1, ⟨h2, h3⟩, ⟨h4, h5⟩, ⟨h6, h7⟩, h8, ⟨h9, h10, h11, h12⟩, _⟩ := h
  have hs := seatsMay_le h1
  have hp : (v.2.2.2.1.length : Int) ≤ n ∧ ∀ t ∈ v.2.2.2.1, t.length = 32 := by
    unfold mayP at h8
    split at h8
    · simp only [decide_eq_true_iff] at h8
      refine ⟨by omega, fun t ht => ?_⟩
      rw [List.length_eq_zero_iff.1 h8] at ht
      cases ht
    · simp only [Bool.and_eq_true, decide_eq_true_iff] at h8
      refine ⟨h8.1.2, fun t ht => ?_⟩
      obtain ⟨i, hi, rfl⟩ := List.getElem_of_mem ht
      exact (h8.2 i hi).1
  refine ⟨hs.1, hs.2, h2, h3, h4, h5, h6, fun b hb => ?_, hp.1, hp.2, h9, h10, h11, h12⟩
  have := h7 b hb
  simp only [wrongB, Bool.or_eq_false_iff, Bool.not_eq_false'] at this
  exact this.1

/-- All batches of texts. -/
def takeAll : List (List UInt8) → List Bat × Nat
  | [] => ([], 0)
  | s :: l => if (Bt.take s).2 ≠ 0 then ([], (Bt.take s).2) else if (takeAll l).2 ≠ 0 then ([], (takeAll l).2) else ((Bt.take s).1 :: (takeAll l).1, 0)
theorem takeAll_bytes (l : List Bat) (h : ∀ b ∈ l, Bt.may b = true) : takeAll (l.map Bt.bytes) = (l, 0) := by
  induction l with
  | nil => rfl
  | cons b l ih =>
    have h1 := Bt.back b (h b (by simp))
    have h2 := ih fun x hx => h x (by simp [hx])
    simp only [List.map_cons, takeAll, h1, h2]
    simp
theorem takeAll_back (l : List (List UInt8)) (bs : List Bat) (h : takeAll l = (bs, 0)) : bs.map Bt.bytes = l := by
  induction l generalizing bs with
  | nil => simp only [takeAll, Prod.mk.injEq] at h; rw [← h.1]; rfl
  | cons s l ih =>
    simp only [takeAll] at h
    split at h
    · simp only [Prod.mk.injEq] at h; rename_i h0; exact absurd h.2 h0
    · split at h
      · simp only [Prod.mk.injEq] at h; rename_i h0; exact absurd h.2 h0
      · rename_i h0 h1
        simp only [Prod.mk.injEq] at h
        obtain ⟨rfl, _⟩ := h
        rw [List.map_cons, ih (takeAll l).1 (by
          obtain ⟨⟨x, y⟩, hx⟩ : ∃ q, takeAll l = q := ⟨_, rfl⟩
          simp only [hx] at h1 ⊢
          simp only [Prod.mk.injEq, true_and]
          omega)]
        rcases Bt.take_or s with e | ⟨b, e, _, hb⟩
        · rw [e] at h0; simp [Bt.none] at h0
        · rw [e, hb]

/-- The bytes of a vertex that may be, and whatever stands behind, from part to part. -/
theorem parts {v : Vtx} {n : Int} (h : may v n = true) (more : List UInt8) :
    ∃ s1 s2 s3 s4 s5, takeNum (bytes v ++ more) = (v.1.toNat, s1, 0) ∧ takeNum s1 = (v.2.1.toNat, s2, 0) ∧
      (∀ m : Int, 300 ≤ m ∨ (s2.length : Int) ≤ m → takeRow s2 4 m = (v.2.2.1.map Bt.bytes, s3, 0)) ∧ takeAll (v.2.2.1.map Bt.bytes) = (v.2.2.1, 0) ∧
      (∀ m : Int, n ≤ m → takeRow s3 m 32 = (v.2.2.2.1, s4, 0)) ∧ takeNum s4 = (v.2.2.2.2.1.toNat, s5, 0) ∧ takeNum s5 = (v.2.2.2.2.2.toNat, more, 0) := by
  have f := fits h
  obtain ⟨n1, n2, a1, a2, r1, r2, b1, b2, p1, p2, x1, x2, y1, y2⟩ := f
  refine ⟨num v.2.1.toNat ++ (row (v.2.2.1.map Bt.bytes) ++ (row v.2.2.2.1 ++ (num v.2.2.2.2.1.toNat ++ (num v.2.2.2.2.2.toNat ++ more)))), row (v.2.2.1.map Bt.bytes) ++ (row v.2.2.2.1 ++ (num v.2.2.2.2.1.toNat ++ (num v.2.2.2.2.2.toNat ++ more))), row v.2.2.2.1 ++ (num v.2.2.2.2.1.toNat ++ (num v.2.2.2.2.2.toNat ++ more)), num v.2.2.2.2.1.toNat ++ (num v.2.2.2.2.2.toNat ++ more), num v.2.2.2.2.2.toNat ++ more, ?_, ?_, ?_, takeAll_bytes _ b2, ?_, ?_, ?_⟩
  · simp only [bytes, List.append_assoc]
    exact takeNum_num _ (by omega) _
  · exact takeNum_num _ (by omega) _
  · intro m hm
    have hlen : ∀ t ∈ v.2.2.1.map Bt.bytes, t.length ≤ 300 := by
      intro t ht
      obtain ⟨b, hb, rfl⟩ := List.mem_map.1 ht
      exact Bt.bytes_len b (b2 b hb)
    have hin : ∀ (l : List (List UInt8)), ∀ t ∈ l, t.length ≤ (texts l).length := by
      intro l
      induction l with
      | nil => intro t ht; cases ht
      | cons s l ih =>
        intro t ht
        simp only [texts, text, List.length_append]
        rcases List.mem_cons.1 ht with rfl | ht
        · omega
        · have := ih t ht; omega
    refine takeRow_row _ _ _ _ (by rw [List.length_map]; omega) (by rw [List.length_map]; omega) (fun t ht => ?_) (fun t ht => by have := hlen t ht; omega)
    have h1 := hlen t ht
    have h2 := hin _ t ht
    rcases hm with hm | hm
    · omega
    · rw [List.length_append, row, List.length_append] at hm; omega
  · intro m hm
    exact takeRow_row _ _ _ _ (by omega) (by omega) (fun t ht => by have := p2 t ht; omega) (fun t ht => by have := p2 t ht; omega)
  · exact takeNum_num _ (by omega) _
  · exact takeNum_num _ (by omega) _
/-- From the parts, the bytes. -/
theorem whole {s s1 s2 s3 s4 s5 : List UInt8} {a r x y : Nat} {l : List (List UInt8)} {bs : List Bat} {ps : List (List UInt8)} {k m k' m' : Int}
    (h1 : takeNum s = (a, s1, 0)) (h2 : takeNum s1 = (r, s2, 0)) (h3 : takeRow s2 k m = (l, s3, 0)) (h4 : takeAll l = (bs, 0)) (h5 : takeRow s3 k' m' = (ps, s4, 0)) (h6 : takeNum s4 = (x, s5, 0)) (h7 : takeNum s5 = (y, [], 0)) :
    bytes ((a : Int), (r : Int), bs, ps, (x : Int), (y : Int)) = s := by
  have e1 := takeNum_back _ _ _ h1
  have e2 := takeNum_back _ _ _ h2
  have e3 := (takeRow_back _ _ _ _ _ h3).1
  have e4 := takeAll_back _ _ h4
  have e5 := (takeRow_back _ _ _ _ _ h5).1
  have e6 := takeNum_back _ _ _ h6
  have e7 := takeNum_back _ _ _ h7
  simp only [bytes, Int.toNat_natCast]
  rw [e4, ← e1, ← e2, ← e3, ← e5, ← e6, ← e7, List.append_nil]
theorem inj {u v : Vtx} {n m : Int} (hu : may u n = true) (hv : may v m = true) (h : bytes u = bytes v) : u = v := by
  obtain ⟨s1, s2, s3, s4, s5, h1, h2, h3, h4, h5, h6, h7⟩ := parts hu []
  obtain ⟨t1, t2, t3, t4, t5, k1, k2, k3, k4, k5, k6, k7⟩ := parts hv []
  rw [h, k1] at h1
  simp only [Prod.mk.injEq, and_true] at h1
  obtain ⟨e1, rfl⟩ := h1
  rw [k2] at h2
  simp only [Prod.mk.injEq, and_true] at h2
  obtain ⟨e2, rfl⟩ := h2
  have h3' := h3 300 (.inl (by omega))
  rw [k3 300 (.inl (by omega))] at h3'
  simp only [Prod.mk.injEq, and_true] at h3'
  obtain ⟨e3, rfl⟩ := h3'
  rw [e3, h4] at k4
  simp only [Prod.mk.injEq, and_true] at k4
  have fu := fits hu
  have fv := fits hv
  have n1 := fu.n2
  have n2 := fv.n2
  have h5' := h5 64 (by omega)
  rw [k5 64 (by omega)] at h5'
  simp only [Prod.mk.injEq, and_true] at h5'
  obtain ⟨e5, rfl⟩ := h5'
  rw [k6] at h6
  simp only [Prod.mk.injEq, and_true] at h6
  obtain ⟨e6, rfl⟩ := h6
  rw [k7] at h7
  simp only [Prod.mk.injEq, and_true] at h7
  have e7 := h7
  have a1 := fu.a1
  have a2 := fv.a1
  have r1 := fu.r1
  have r2 := fv.r1
  have x1 := fu.x1
  have x2 := fv.x1
  have y1 := fu.y1
  have y2 := fv.y1
  obtain ⟨ua, ur, ub, up, ux, uy⟩ := u
  obtain ⟨va, vr, vb, vp, vx, vy⟩ := v
  simp only [] at *
  obtain rfl : ua = va := by omega
  obtain rfl : ur = vr := by omega
  obtain rfl : ux = vx := by omega
  obtain rfl : uy = vy := by omega
  rw [k4, e5]

def none : Vtx × Nat := ((0, 0, [], [], 0, 0), 3)
open Classical in
/-- What 'Take' answers. -/
noncomputable def take (s : List UInt8) (n : Int) : Vtx × Nat := if h : ∃ v, may v n = true ∧ bytes v = s then (choose h, 0) else none
theorem take_yes {s : List UInt8} {n : Int} {v : Vtx} (h : may v n = true) (hb : bytes v = s) : take s n = (v, 0) := by
  have he : ∃ v, may v n = true ∧ bytes v = s := ⟨v, h, hb⟩
  have hc := Classical.choose_spec he
  rw [take, dif_pos he]
  rw [inj hc.1 h (hc.2.trans hb.symm)]
theorem take_no {s : List UInt8} {n : Int} (h : ∀ v, may v n = true → bytes v ≠ s) : take s n = none := by
  rw [take, dif_neg]
  rintro ⟨v, hm, hb⟩
  exact h v hm hb
theorem take_or (s : List UInt8) (n : Int) : (take s n = none ∧ ∀ v, may v n = true → bytes v ≠ s) ∨ ∃ v, take s n = (v, 0) ∧ may v n = true ∧ bytes v = s := by
  by_cases he : ∃ v, may v n = true ∧ bytes v = s
  · obtain ⟨v, h, hb⟩ := he
    exact .inr ⟨v, take_yes h hb, h, hb⟩
  · have h : ∀ v, may v n = true → bytes v ≠ s := fun v hm hb => he ⟨v, hm, hb⟩
    exact .inl ⟨take_no h, h⟩
theorem back {v : Vtx} {n : Int} (h : may v n = true) : take (bytes v) n = (v, 0) := take_yes h rfl
theorem longer {v : Vtx} {n : Int} (more : List UInt8) (h : may v n = true) (hm : more ≠ []) : take (bytes v ++ more) n = none := by
  refine take_no fun u hu e => ?_
  obtain ⟨s1, s2, s3, s4, s5, h1, h2, h3, h4, h5, h6, h7⟩ := parts hu []
  obtain ⟨t1, t2, t3, t4, t5, k1, k2, k3, k4, k5, k6, k7⟩ := parts h more
  rw [List.append_nil, e, k1] at h1
  simp only [Prod.mk.injEq, and_true] at h1
  obtain ⟨_, rfl⟩ := h1
  rw [k2] at h2
  simp only [Prod.mk.injEq, and_true] at h2
  obtain ⟨_, rfl⟩ := h2
  have h3' := h3 300 (.inl (by omega))
  rw [k3 300 (.inl (by omega))] at h3'
  simp only [Prod.mk.injEq, and_true] at h3'
  obtain ⟨_, rfl⟩ := h3'
  have h5' := h5 n (by omega)
  rw [k5 n (by omega)] at h5'
  simp only [Prod.mk.injEq, and_true] at h5'
  obtain ⟨_, rfl⟩ := h5'
  rw [k6] at h6
  simp only [Prod.mk.injEq, and_true] at h6
  obtain ⟨_, rfl⟩ := h6
  rw [k7] at h7
  simp only [Prod.mk.injEq, and_true] at h7
  exact hm h7.2
theorem cut {v : Vtx} {n : Int} (k : Nat) (h : may v n = true) (hk : k < (bytes v).length) : take ((bytes v).take k) n = none := by
  rcases take_or ((bytes v).take k) n with ⟨e, _⟩ | ⟨c, _, hc, e⟩
  · exact e
  · exfalso
    have hne : (bytes v).drop k ≠ [] := by
      intro e
      have := congrArg List.length e
      simp at this
      omega
    have := longer ((bytes v).drop k) hc hne
    rw [e, List.take_append_drop, back h] at this
    simp [none] at this
theorem apart {a b : Vtx} {n : Int} (ha : may a n = true) (hb : may b n = true) : bytes a = bytes b ↔ a = b := ⟨inj ha hb, fun e => by rw [e]⟩
theorem turned {v : Vtx} {n : Int} (k : Nat) (y : UInt8) (h : may v n = true) (hk : k < (bytes v).length) (hy : (bytes v)[k] ≠ y) : (take ((bytes v).set k y) n).1 ≠ v ∧ ((take ((bytes v).set k y) n).2 = 3 ∨ (take ((bytes v).set k y) n).2 = 0) := by
  rcases take_or ((bytes v).set k y) n with ⟨e, _⟩ | ⟨c, e, hm, hc⟩
  · rw [e]
    refine ⟨fun e2 => ?_, .inl rfl⟩
    have := (fits h).a1
    rw [← e2] at this
    simp [none] at this
  · rw [e]
    refine ⟨fun e2 => ?_, .inr rfl⟩
    simp only [] at e2
    subst e2
    apply hy
    have h2 : ((bytes c).set k y)[k]? = (bytes c)[k]? := by rw [← hc]
    rw [List.getElem?_set_self hk, List.getElem?_eq_getElem hk] at h2
    simpa using h2.symm
theorem bytes_len {v : Vtx} {n : Int} (h : may v n = true) : (bytes v).length ≤ 4600 := by
  obtain ⟨n1, n2, a1, a2, r1, r2, b1, b2, p1, p2, x1, x2, y1, y2⟩ := fits h
  have ht : ∀ (l : List (List UInt8)) (c : Nat), (∀ t ∈ l, t.length ≤ c) → (texts l).length ≤ (c + 9) * l.length := by
    intro l c
    induction l with
    | nil => intro _; simp [texts]
    | cons t l ih =>
      intro hl
      have h1 := hl t (by simp)
      have h2 := ih fun x hx => hl x (by simp [hx])
      have := num_len t.length
      simp only [texts, text, List.length_append, List.length_cons, Nat.mul_add]
      omega
  have t1 := ht (v.2.2.1.map Bt.bytes) 300 (by
    intro t ht
    obtain ⟨b, hb, rfl⟩ := List.mem_map.1 ht
    exact Bt.bytes_len b (b2 b hb))
  have t2 := ht v.2.2.2.1 32 (fun t ht => by have := p2 t ht; omega)
  rw [List.length_map] at t1
  have l1 := num_len v.1.toNat
  have l2 := num_len v.2.1.toNat
  have l3 := num_len v.2.2.2.2.1.toNat
  have l4 := num_len v.2.2.2.2.2.toNat
  have l5 := num_len (v.2.2.1.map Bt.bytes).length
  have l6 := num_len v.2.2.2.1.length
  have p3 : v.2.2.2.1.length ≤ 64 := by omega
  simp only [bytes, row, List.length_append]
  omega
end Vt
end
section
/- Blocks that hold texts, by their type. -/
namespace Go.Proofs.Ytbkpekpajeaacaa
open Go.RowKit

/-- A block that holds texts. -/
def TyS (w : World) (k : Nat) : Prop := ∃ cur fz, w.heap[k]? = some (.cells cur 9 fz)
/-- A slice's block, if it has one, holds texts. -/
def TyV (w : World) (v : Value) : Prop := ∀ k, v.ownBlock = some k → TyS w k
theorem TyS.lt {w : World} {k : Nat} (h : TyS w k) : k < w.heap.size := by
  obtain ⟨cur, fz, h⟩ := h
  exact (Array.getElem?_eq_some_iff.1 h).1
theorem TyS.below {w w' : World} {k n : Nat} (h : TyS w k) (hb : Below n w w') (hn : k < n) : TyS w' k := by
  obtain ⟨cur, fz, h⟩ := h
  exact ⟨cur, fz, by rw [hb.block k hn]; exact h⟩
theorem TyS.set {w : World} {k : Nat} (h : TyS w k) (B i : Nat) (x : Value) : TyS (w.setCell ⟨B, i, none⟩ x) k := by
  obtain ⟨cur, fz, h⟩ := h
  by_cases e : k = B
  · subst e
    obtain ⟨hlt, hk⟩ := Array.getElem?_eq_some_iff.1 h
    refine ⟨cur.setIfInBounds i x, fz, ?_⟩
    show (w.heap.modify k _)[k]? = _
    rw [Array.getElem?_eq_getElem (by rw [Array.size_modify]; exact hlt), Array.getElem_modify_self, hk]
    rfl
  · exact ⟨cur, fz, (Below.heap_setCell w ⟨B, i, none⟩ x k e).trans h⟩
theorem TyV.nil (w : World) (n c : Nat) : TyV w (.slice none n c) := fun k h => by cases h
theorem TyV.own {w : World} {base k n : Nat} {v : Value} {xs : List Value} (h : w.ownsRow base 9 k v n xs) : TyV w v := fun g hg => by
  rcases h.2 with ⟨rfl, _⟩ | ⟨g', cap, cur, rfl, _, hh, _⟩
  · simp [Value.ownBlock] at hg
  · have : g' = g := Option.some.inj hg
    subst this
    exact ⟨cur, _, hh⟩
theorem TyV.below {w w' : World} {v : Value} (h : TyV w v) (hb : Below w.heap.size w w') : TyV w' v := fun k hk => (h k hk).below hb (h k hk).lt
theorem TyV.set {w : World} {v : Value} (h : TyV w v) (B i : Nat) (x : Value) : TyV (w.setCell ⟨B, i, none⟩ x) v := fun k hk => (h k hk).set B i x
end Go.Proofs.Ytbkpekpajeaacaa
end
section
/- The contract of the document's Less. -/
namespace Dg
theorem less_drop (a b : List UInt8) (k : Nat) (ha : k < a.length) (hb : k < b.length) : less (a.drop k) (b.drop k) = if a[k] = b[k] then less (a.drop (k + 1)) (b.drop (k + 1)) else decide (a[k].toNat < b[k].toNat) := by
  rw [List.drop_eq_getElem_cons ha, List.drop_eq_getElem_cons hb, less]
theorem less_end (a b : List UInt8) (k : Nat) (hk1 : k ≤ a.length) (hk2 : k ≤ b.length) (h : k = a.length ∨ k = b.length) : less (a.drop k) (b.drop k) = decide (a.length < b.length) := by
  rcases h with h | h
  · subst h
    rw [List.drop_length]
    by_cases e : b.length = a.length
    · rw [List.drop_of_length_le (by omega)]; simp [less, e]
    · rw [List.drop_eq_getElem_cons (by omega), less]; symm; rw [decide_eq_true_iff]; omega
  · subst h
    rw [List.drop_length]
    by_cases e : a.length = b.length
    · rw [List.drop_of_length_le (by omega)]; simp [less, e]
    · rw [List.drop_eq_getElem_cons (by omega), less]; symm; rw [decide_eq_false_iff_not]; omega
end Dg
namespace Go.Proofs.Ytbkpekpajeaacaa
open Go.RowKit

set_option maxHeartbeats 1000000 in
theorem less_any (a b : List UInt8) (ha : a.length ≤ 140737488351232) (hb : b.length ≤ 140737488351232) (w : World) :
    Calls Try.prog 99 #[tx a, tx b] w fun e w' => e = .returned (.bool (Dg.less a b)) ∧ ∃ n, w' = w.drewN n := by
  go_enter Try.func99, Try.ntmps99
  go_wp2_with fail
  go_loopw [5] (fun i wr => ∃ k : Nat, i = .int .i64 k ∧ k ≤ a.length ∧ k ≤ b.length ∧ Dg.less a b = Dg.less (a.drop k) (b.drop k) ∧ ∃ n, wr = w.drewN n) (fun i _ => a.length - (intOf i).toNat)
  case atStart => exact ⟨0, rfl, by omega, by omega, rfl, 0, rfl⟩
  case round =>
    obtain ⟨k, rfl, hk1, hk2, hl, n, rfl⟩ := hrel
    by_cases h1 : k < a.length
    · by_cases h2 : k < b.length
      · rw [Dg.less_drop a b k h1 h2] at hl
        by_cases he : a[k] = b[k]
        · rw [if_pos he] at hl
          have he' : ((((ByteArray.mk a.toArray)[k]'h1).toNat : Int) != (((ByteArray.mk b.toArray)[k]'h2).toNat : Int)) = false := by
            rw [byte_at a k h1, byte_at b k h2, he]; simp
          have HL := Lib.hid hl
          clear hl he
          go_wp2
          go_quiet (fail)
          go_wp2
          go_roundw
          case rel => exact ⟨k + 1, by go_num, h1, h2, HL.out, _, rfl⟩
          case measure => simp [intOf]; omega
        · rw [if_neg he] at hl
          have he' : ((((ByteArray.mk a.toArray)[k]'h1).toNat : Int) != (((ByteArray.mk b.toArray)[k]'h2).toNat : Int)) = true := by
            rw [byte_at a k h1, byte_at b k h2, bne_iff_ne]
            intro e
            exact he (UInt8.toNat_inj.1 (by omega))
          have HL := Lib.hid hl
          clear hl he
          go_wp2
          go_quiet (fail)
          go_wp2
          go_quiet (fail)
          go_wp2
          go_ret
          exact ⟨by rw [HL.out]; rfl, drewN_ex (drewN_ex ⟨_, rfl⟩ _) _⟩
      · rw [Dg.less_end a b k hk1 hk2 (by omega)] at hl
        have HL := Lib.hid hl
        clear hl
        go_wp2
        go_ret
        exact ⟨by rw [HL.out]; rfl, _, rfl⟩
    · rw [Dg.less_end a b k hk1 hk2 (by omega)] at hl
      have HL := Lib.hid hl
      clear hl
      go_wp2
      go_ret
      exact ⟨by rw [HL.out]; rfl, _, rfl⟩
end Go.Proofs.Ytbkpekpajeaacaa
end
section
/- Opening a slice that came in, of whatever elements: each element's cells, by a predicate of one's own. -/
namespace Go.Proofs.Ytbkpekpajeaacaa
open Go.RowKit Go.ChangeShapes Go.WideShapes Go.ChangeAt

theorem addr_add2 (a : Addr) (i j : Nat) : (a.add i).add j = a.add (i + j) := by
  unfold Addr.add
  by_cases h1 : i = 0 <;> by_cases h2 : j = 0 <;> simp [h1, h2, Nat.add_assoc]

/-- l stands at the address: each element's K cells meet Q. -/
def RowsAt {α : Type} (K : Nat) (Q : α → List Value → Prop) (w : World) (ad : Addr) (l : List α) : Prop :=
  ∀ k (h : k < l.length), ∃ cs : List Value, cs.length = K ∧ Q l[k] cs ∧ ∀ j u, cs[j]? = some u → w.cell? (ad.add (k * K + j)) = some u

theorem open_rows {α H : Type} {enc : TypeId × Value → H} {W : World} {n : Nat} {t e : TypeId} {K : Nat} {v : Value} {y : DataW H × List MemPlace} (Q : α → List Value → DataW H → Prop)
    (ht : Try.prog.underlying t = some (.slice e)) (ce : Try.prog.cellsOf e = K) (hK : 0 < K)
    (elem : ∀ (n : Nat) (cs : List Value) (x : DataW H × List MemPlace), cs.length = K → DataW.trod enc Try.prog W 0 (fun _ => true) true n e cs = some x → ∃ a, Q a cs x.1)
    (h : DataW.trod enc Try.prog W 0 (fun _ => true) true n t [v] = some y) :
    (v = .slice none 0 0 ∧ y.1 = .nil) ∨ ∃ (ad : Addr) (cap : Nat) (l : List α) (D sp : List (DataW H)), v = .slice (some ad) l.length cap ∧ l.length ≤ cap ∧ cap ≤ maxLen ∧ (0 < cap → ad.spot = none) ∧ y.1 = .slice D sp ∧ D.length = l.length ∧
      ∀ k (h : k < l.length) (h' : k < D.length), ∃ cs : List Value, cs.length = K ∧ Q l[k] cs D[k] ∧ ∀ j u, cs[j]? = some u → W.cell? (ad.add (k * K + j)) = some u := by
  rcases Go.Deep.open_slice ht h with ⟨hv, rfl⟩ | ⟨a, len, cap, m, n', D, Pl, hv, _, hl, hcap, hm, rfl, hx⟩
  · cases hv
    exact .inl ⟨rfl, rfl⟩
  · cases hv
    simp only [if_true] at hm
    subst hm
    have each : ∀ i : Fin len, ∃ b : α, ∃ cs : List Value, cs.length = K ∧ Q b cs (D i) ∧ ∀ j u, cs[j]? = some u → W.cell? (a.add (i * K + j)) = some u := by
      intro i
      obtain ⟨cs, h1, h2⟩ := hx i (by have := i.isLt; omega)
      rw [ce] at h1
      obtain ⟨_, hlen, hcell⟩ := World.cells?_some h1
      obtain ⟨b, hb⟩ := elem _ _ _ hlen h2
      refine ⟨b, cs, hlen, hb, fun j u hj => ?_⟩
      have hjl := (List.getElem?_eq_some_iff.1 hj).1
      rw [← addr_add2, hcell j (by omega), hj]
    let l : List α := List.ofFn fun i => (each i).choose
    have hll : l.length = len := by simp [l]
    have hlk : ∀ k (h : k < l.length), l[k] = (each ⟨k, by omega⟩).choose := by intro k h; simp [l]
    have hspot : 0 < m → a.spot = none := by
      intro h0
      obtain ⟨cs, h1, _⟩ := hx 0 h0
      rw [ce] at h1
      obtain ⟨_, hlen, hcell⟩ := World.cells?_some h1
      have := hcell 0 hK
      rw [List.getElem?_eq_getElem (by omega)] at this
      simpa [Addr.add] using World.cell?_spot this
    refine .inr ⟨a, m, l, (List.range len).map D, _, by rw [hll], by omega, hcap, hspot, rfl, by simp [hll], fun k h h' => ?_⟩
    · obtain ⟨cs, h1, h2, h3⟩ := (each ⟨k, by omega⟩).choose_spec
      exact ⟨cs, h1, by rw [hlk k h]; simpa using h2, h3⟩

theorem open_len {H : Type} {t e : TypeId} {D sp : List (DataW H)} {B : Nat} (ht : Try.prog.underlying t = some (.slice e)) (hb : Try.prog.bytesOf e = B)
    (h : (DataW.weights Try.prog t (.slice D sp)).all (· ≤ reachBytes) = true) : D.length * B ≤ 140737488351232 := by
  simp only [DataW.weights, ht, hb, List.all_cons, Bool.and_eq_true, decide_eq_true_iff] at h
  have h1 := h.1
  unfold reachBytes at h1
  exact Nat.le_trans (Nat.mul_le_mul_right _ (Nat.le_add_right _ _)) h1
end Go.Proofs.Ytbkpekpajeaacaa
end
