/- Rows of texts as bytes, and back: plain functions. No program is named here. -/
import Derived.Test.YtkkiedmcpibnaaaDoorDigOrd
namespace Dg

def text (t : List UInt8) : List UInt8 := num t.length ++ t
def texts : List (List UInt8) → List UInt8
  | [] => []
  | t :: l => text t ++ texts l
def row (l : List (List UInt8)) : List UInt8 := num l.length ++ texts l

abbrev Res := List (List UInt8) × List UInt8 × Nat
/-- So many texts, one behind the other. -/
def takeTexts : Nat → List UInt8 → Int → Res
  | 0, l, _ => ([], l, 0)
  | n + 1, l, most =>
    if (takeText l most).2.2 ≠ 0 then ([], [], (takeText l most).2.2)
    else if (takeTexts n (takeText l most).2.1 most).2.2 ≠ 0 then ([], [], (takeTexts n (takeText l most).2.1 most).2.2)
    else ((takeText l most).1 :: (takeTexts n (takeText l most).2.1 most).1, (takeTexts n (takeText l most).2.1 most).2.1, 0)
def takeRow (l : List UInt8) (many most : Int) : Res :=
  if (takeNum l).2.2 ≠ 0 then ([], [], (takeNum l).2.2) else if above (takeNum l).1 many = true then ([], [], 4) else takeTexts (takeNum l).1 (takeNum l).2.1 most

/-- What was taken so far, ahead of what is still taken. -/
def glue (acc : List (List UInt8)) (x : Res) : Res := if x.2.2 ≠ 0 then ([], [], x.2.2) else (acc ++ x.1, x.2.1, 0)

theorem takeText_bad (l : List UInt8) (most : Int) (h : (takeText l most).2.2 ≠ 0) : takeText l most = ([], [], (takeText l most).2.2) := by
  unfold takeText at h ⊢
  split at h
  · rename_i h1; simp [h1]
  · split at h
    · rename_i h1 h2; rw [if_neg h1, if_pos h2]
    · split at h
      · rename_i h1 h2 h3; rw [if_neg h1, if_neg h2, if_pos h3]
      · exact absurd rfl h
theorem takeTexts_bad (n : Nat) (l : List UInt8) (most : Int) (h : (takeTexts n l most).2.2 ≠ 0) : takeTexts n l most = ([], [], (takeTexts n l most).2.2) := by
  cases n with
  | zero => exact absurd rfl h
  | succ n =>
    rw [takeTexts] at h ⊢
    split at h
    · rename_i h1; rw [if_pos h1]
    · split at h
      · rename_i h1 h2; rw [if_neg h1, if_pos h2]
      · exact absurd rfl h
theorem glue_nil (n : Nat) (l : List UInt8) (most : Int) : glue [] (takeTexts n l most) = takeTexts n l most := by
  unfold glue
  split
  · rename_i h; exact (takeTexts_bad n l most h).symm
  · rename_i h
    have h0 : (takeTexts n l most).2.2 = 0 := by omega
    rw [← h0]; rfl
theorem glue_zero (acc : List (List UInt8)) (l : List UInt8) (most : Int) : glue acc (takeTexts 0 l most) = (acc, l, 0) := by simp [glue, takeTexts]
theorem glue_bad (acc : List (List UInt8)) (n : Nat) (l : List UInt8) (most : Int) {t r : List UInt8} {x : Nat} (h : takeText l most = (t, r, x)) (hx : x ≠ 0) : glue acc (takeTexts (n + 1) l most) = ([], [], x) := by
  rw [takeTexts, h, if_pos hx, glue, if_pos hx]
theorem glue_step (acc : List (List UInt8)) (n : Nat) (l : List UInt8) (most : Int) {t r : List UInt8} (h : takeText l most = (t, r, 0)) : glue acc (takeTexts (n + 1) l most) = glue (acc ++ [t]) (takeTexts n r most) := by
  rw [takeTexts, h, if_neg (by simp)]
  by_cases hx : (takeTexts n r most).2.2 = 0
  · rw [if_neg (by simpa using hx), glue, if_neg (by simp), glue, if_neg (by simpa using hx)]
    simp
  · rw [if_pos hx, glue, if_pos hx, glue, if_pos hx]

/-- A text that is taken is no longer than the bytes, and at least one byte is gone. -/
theorem takeNum_less (l : List UInt8) (h : (takeNum l).2.2 = 0) : (takeNum l).2.1.length + 1 ≤ l.length := by
  cases l with
  | nil => simp [takeNum] at h
  | cons b r =>
    rw [takeNum] at h ⊢
    split at h
    · simp at h
    · rename_i h1
      split at h
      · simp at h
      · rename_i h2
        split at h
        · simp at h
        · rename_i h3
          rw [if_neg h1, if_neg h2, if_neg h3]
          simp
theorem takeText_less (l : List UInt8) (most : Int) (h : (takeText l most).2.2 = 0) : (takeText l most).2.1.length + 1 ≤ l.length := by
  unfold takeText at h ⊢
  split at h
  · exact absurd h (by assumption)
  · rename_i h1
    have := takeNum_less l (by simpa using h1)
    split at h
    · simp at h
    · rename_i h2
      split at h
      · simp at h
      · rename_i h3
        rw [if_neg h1, if_neg h2, if_neg h3]
        simp; omega
theorem takeText_err (l : List UInt8) (most : Int) : (takeText l most).2.2 ≤ 4 := by
  have := takeNum_err l
  unfold takeText
  split
  · simp; omega
  · split
    · simp
    · split <;> simp
theorem takeTexts_err (n : Nat) (l : List UInt8) (most : Int) : (takeTexts n l most).2.2 ≤ 4 := by
  induction n generalizing l with
  | zero => simp [takeTexts]
  | succ n ih =>
    rw [takeTexts]
    have h1 := takeText_err l most
    have h2 := ih (takeText l most).2.1
    split
    · simpa using h1
    · split
      · simpa using h2
      · simp
theorem takeTexts_len (n : Nat) (l : List UInt8) (most : Int) : (takeTexts n l most).1.length ≤ l.length ∧ (takeTexts n l most).2.1.length ≤ l.length := by
  induction n generalizing l with
  | zero => simp [takeTexts]
  | succ n ih =>
    rw [takeTexts]
    have h2 := ih (takeText l most).2.1
    have h3 := takeText_rest l most
    split
    · simp
    · rename_i h1
      have h4 := takeText_less l most (by simpa using h1)
      split
      · simp
      · simp; omega
theorem takeRow_len (l : List UInt8) (many most : Int) : (takeRow l many most).1.length ≤ l.length ∧ (takeRow l many most).2.1.length ≤ l.length := by
  have h := takeTexts_len (takeNum l).1 (takeNum l).2.1 most
  have h2 := takeNum_rest l
  unfold takeRow
  split
  · simp
  · split
    · simp
    · omega
end Dg
