/- The plain functions of layer 1 (digits), as lists of bytes, and what they come to. No program is named here. -/
namespace Dg

/-- The bytes of a number, the highest first, none ahead that is 0; 'k' bounds how many. -/
def bytesF : Nat → Nat → List UInt8
  | 0, _ => []
  | k + 1, v => if v = 0 then [] else bytesF k (v / 256) ++ [UInt8.ofNat (v % 256)]
def bytes (v : Nat) : List UInt8 := bytesF 8 v
def num (v : Nat) : List UInt8 := UInt8.ofNat (bytes v).length :: bytes v

theorem bytesF_len (k v : Nat) : (bytesF k v).length ≤ k := by
  induction k generalizing v with
  | zero => simp [bytesF]
  | succ k ih =>
    unfold bytesF
    split
    · simp
    · simp; have := ih (v / 256); omega

theorem bytesF_zero (k : Nat) : bytesF k 0 = [] := by cases k <;> simp [bytesF]

/-- Once enough, more fuel changes nothing. -/
theorem bytesF_more (k v : Nat) (h : v < 256 ^ k) : bytesF (k + 1) v = bytesF k v := by
  induction k generalizing v with
  | zero => simp at h; subst h; simp [bytesF]
  | succ k ih =>
    rw [bytesF]
    conv => rhs; rw [bytesF]
    split
    · rfl
    · rw [ih (v / 256)]
      rw [Nat.pow_succ] at h
      omega

theorem bytesF_step (k v : Nat) (h0 : v ≠ 0) : bytesF (k + 1) v = bytesF k (v / 256) ++ [UInt8.ofNat (v % 256)] := by
  rw [bytesF, if_neg h0]

theorem bytes_len (v : Nat) : (bytes v).length ≤ 8 := bytesF_len 8 v

theorem num_len (v : Nat) : (num v).length ≤ 9 := by have := bytes_len v; simp [num]; omega

theorem pow_bound (k m : Nat) (hk : k ≤ 8) (h : m < 256 ^ k) : m < 18446744073709551616 := by
  have := Nat.pow_le_pow_right (n := 256) (by omega) hk
  omega

/-- The number that a row of bytes tells, the highest first. -/
def ofB (l : List UInt8) : Nat := l.foldl (fun v b => v * 256 + b.toNat) 0
/-- What 'TakeNum' answers: the number, the rest, the error. -/
def takeNum : List UInt8 → Nat × List UInt8 × Nat
  | [] => (0, [], 2)
  | b :: r => if 8 < b.toNat then (0, [], 3) else if r.length < b.toNat then (0, [], 2) else if 0 < b.toNat ∧ r.headD 1 = 0 then (0, [], 3) else (ofB (r.take b.toNat), r.drop b.toNat, 0)

theorem ofB_snoc (l : List UInt8) (b : UInt8) : ofB (l ++ [b]) = ofB l * 256 + b.toNat := by simp [ofB]
theorem ofB_lt (l : List UInt8) : ofB l < 256 ^ l.length := by
  suffices h : ∀ n (l : List UInt8), l.length = n → ofB l < 256 ^ n from h _ _ rfl
  intro n
  induction n with
  | zero => intro l hl; simp at hl; subst hl; simp [ofB]
  | succ n ih =>
    intro l hl
    rcases List.eq_nil_or_concat l with rfl | ⟨l', b, rfl⟩
    · simp at hl
    · rw [List.concat_eq_append, ofB_snoc]
      have := ih l' (by simp at hl; omega)
      have := b.toNat_lt
      rw [Nat.pow_succ]; omega

theorem takeNum_rest (l : List UInt8) : (takeNum l).2.1.length ≤ l.length := by
  cases l with
  | nil => simp [takeNum]
  | cons b r =>
    rw [takeNum]
    split
    · simp
    · split
      · simp
      · split
        · simp
        · simp; omega
theorem takeNum_bound (l : List UInt8) : (takeNum l).1 < 18446744073709551616 := by
  cases l with
  | nil => simp [takeNum]
  | cons b r =>
    rw [takeNum]
    split
    · simp
    · split
      · simp
      · split
        · simp
        · have h1 := ofB_lt (r.take b.toNat)
          have := Nat.pow_le_pow_right (n := 256) (by omega) (show (r.take b.toNat).length ≤ 8 by simp; omega)
          show ofB (r.take b.toNat) < _
          omega
theorem takeNum_err (l : List UInt8) : (takeNum l).2.2 = 0 ∨ (takeNum l).2.2 = 2 ∨ (takeNum l).2.2 = 3 := by
  cases l with
  | nil => simp [takeNum]
  | cons b r =>
    rw [takeNum]
    split
    · simp
    · split
      · simp
      · split <;> simp

/-- Is a number above a bound that may be negative? -/
def above (n : Nat) (most : Int) : Bool := decide (most < 0 ∨ most < (n : Int))
/-- What 'TakeText' answers: the text, the rest, the error. -/
def takeText (l : List UInt8) (most : Int) : List UInt8 × List UInt8 × Nat :=
  if (takeNum l).2.2 ≠ 0 then ([], [], (takeNum l).2.2) else if above (takeNum l).1 most = true then ([], [], 4) else if (takeNum l).2.1.length < (takeNum l).1 then ([], [], 2)
  else ((takeNum l).2.1.take (takeNum l).1, (takeNum l).2.1.drop (takeNum l).1, 0)

theorem takeText_rest (l : List UInt8) (most : Int) : (takeText l most).2.1.length ≤ l.length := by
  have := takeNum_rest l
  unfold takeText
  split
  · simp
  · split
    · simp
    · split
      · simp
      · simp; omega

end Dg
