/- Papers as plain functions: a record's frame, and the records that bytes begin with. -/
import Derived.Test.YtkkiedmcpibnaaaDoorDigInv
import Derived.Test.YtkkiedmcpibnaaaDoorShaSum
namespace Pp
open Dg
def chk (r : List UInt8) : List UInt8 := (Sh.sum r).take 4
def frm (r : List UInt8) : List UInt8 := text r ++ chk r
def frs : List (List UInt8) → List UInt8
  | [] => []
  | r :: l => frm r ++ frs l
def frameR (r : List UInt8) : List UInt8 × Nat := if r.length ≤ 65536 then (frm r, 0) else ([], 4)
/-- The record that bytes begin with, and what stands behind it. -/
def take1 (s : List UInt8) : Option (List UInt8 × List UInt8) :=
  if (takeText s 65536).2.2 = 0 ∧ 4 ≤ (takeText s 65536).2.1.length ∧ (takeText s 65536).2.1.take 4 = chk (takeText s 65536).1 then some ((takeText s 65536).1, (takeText s 65536).2.1.drop 4) else none
def readN : Nat → List UInt8 → List (List UInt8) × List UInt8
  | 0, s => ([], s)
  | k + 1, s => match take1 s with
    | none => ([], s)
    | some (r, t) => (r :: (readN k t).1, (readN k t).2)
def read (s : List UInt8) : List (List UInt8) × List UInt8 := readN s.length s
/-- What is read. -/
structure Rd (s : List UInt8) (l : List (List UInt8)) (t : List UInt8) : Prop where
  eq : s = frs l ++ t
  small : ∀ r ∈ l, r.length ≤ 65536
  last : take1 t = none

theorem sum_32 (s : List UInt8) : (Sh.sum s).length = 32 := by
  obtain ⟨a, b, c, d, e, f, g, k, h⟩ := Sh.eight _ (Sh.after_len (Sh.pad s) ((Sh.pad s).length / 64))
  rw [Sh.sum, h]
  rfl
theorem chk_len (r : List UInt8) : (chk r).length = 4 := by rw [chk, List.length_take, sum_32]; rfl
theorem txt_len (t : List UInt8) : t.length + 1 ≤ (text t).length ∧ (text t).length ≤ t.length + 9 := by
  rw [text, List.length_append]
  have := num_len t.length
  have : 1 ≤ (num t.length).length := by simp [num]
  omega
theorem frm_len (r : List UInt8) : r.length + 5 ≤ (frm r).length ∧ (frm r).length ≤ r.length + 13 := by
  rw [frm, List.length_append, chk_len]
  have := txt_len r
  omega
theorem frs_app (a b : List (List UInt8)) : frs (a ++ b) = frs a ++ frs b := by
  induction a with
  | nil => rfl
  | cons r a ih => simp [frs, ih]
theorem frs_one (r : List UInt8) : frs [r] = frm r := by simp [frs]
theorem frs_len (l : List (List UInt8)) : 5 * l.length ≤ (frs l).length := by
  induction l with
  | nil => simp
  | cons r l ih => rw [frs, List.length_append, List.length_cons]; have := frm_len r; omega

theorem take1_some {s r t : List UInt8} (h : take1 s = some (r, t)) : s = frm r ++ t ∧ r.length ≤ 65536 := by
  unfold take1 at h
  split at h
  · rename_i hc
    obtain ⟨h1, h2, h3⟩ := hc
    obtain ⟨x, y, e, hx⟩ : ∃ x y e, takeText s 65536 = (x, y, e) := ⟨_, _, _, rfl⟩
    rw [hx] at h h1 h2 h3
    simp only [Option.some.injEq, Prod.mk.injEq] at h h1 h2 h3
    obtain ⟨rfl, rfl⟩ := h
    subst h1
    obtain ⟨k1, k2, _⟩ := takeText_back s x y 65536 hx
    refine ⟨?_, by omega⟩
    rw [frm, ← h3, List.append_assoc, List.take_append_drop, k1]
  · exact absurd h (by simp)
theorem take1_of (r t : List UInt8) (hr : r.length ≤ 65536) : take1 (frm r ++ t) = some (r, t) := by
  have e : takeText (frm r ++ t) 65536 = (r, chk r ++ t, 0) := by
    rw [frm, List.append_assoc]
    exact takeText_text r _ 65536 (by omega) (by omega)
  have hc : (chk r ++ t).take 4 = chk r := by
    rw [List.take_append_of_le_length (by rw [chk_len]; omega), List.take_of_length_le (by rw [chk_len]; omega)]
  have hd : (chk r ++ t).drop 4 = t := by
    rw [List.drop_append_of_le_length (by rw [chk_len]; omega), List.drop_of_length_le (by rw [chk_len]; omega)]
    rfl
  unfold take1
  rw [e]
  simp only [hc, hd]
  rw [if_pos ⟨trivial, by rw [List.length_append, chk_len]; omega, trivial⟩]
theorem take1_nil : take1 [] = none := by
  cases h : take1 [] with
  | none => rfl
  | some p =>
    obtain ⟨r, t⟩ := p
    have := congrArg List.length (take1_some h).1
    rw [List.length_append] at this
    have := frm_len r
    simp at *
    omega
theorem take1_cut {r : List UInt8} {k : Nat} (hr : r.length ≤ 65536) (hk : k < (frm r).length) : take1 ((frm r).take k) = none := by
  cases h : take1 ((frm r).take k) with
  | none => rfl
  | some p =>
    obtain ⟨r', t'⟩ := p
    obtain ⟨h1, h2⟩ := take1_some h
    have e1 : frm r = frm r' ++ (t' ++ (frm r).drop k) := by
      rw [← List.append_assoc, ← h1, List.take_append_drop]
    have e2 := take1_of r [] hr
    rw [List.append_nil, e1, take1_of r' _ h2] at e2
    simp only [Option.some.injEq, Prod.mk.injEq, List.append_eq_nil_iff] at e2
    have := congrArg List.length e2.2.2
    simp at this
    omega

theorem readN_rd (k : Nat) (s : List UInt8) (hk : s.length ≤ k) : Rd s (readN k s).1 (readN k s).2 := by
  induction k generalizing s with
  | zero =>
    obtain rfl := List.length_eq_zero_iff.1 (show s.length = 0 by omega)
    exact ⟨rfl, by simp [readN], take1_nil⟩
  | succ k ih =>
    cases h : take1 s with
    | none =>
      simp only [readN, h]
      exact ⟨rfl, by simp, h⟩
    | some p =>
      obtain ⟨r, t⟩ := p
      simp only [readN, h]
      obtain ⟨h1, h2⟩ := take1_some h
      have hl := congrArg List.length h1
      rw [List.length_append] at hl
      have := frm_len r
      have R := ih t (by omega)
      refine ⟨?_, ?_, R.last⟩
      · rw [frs, List.append_assoc, ← R.eq]
        exact h1
      · intro x hx
        rcases List.mem_cons.1 hx with rfl | hx
        · exact h2
        · exact R.small x hx
theorem read_rd (s : List UInt8) : Rd s (read s).1 (read s).2 := readN_rd _ s (Nat.le_refl _)
theorem rd_one {l l' : List (List UInt8)} {s t t' : List UInt8} (h : Rd s l t) (h' : Rd s l' t') : l = l' ∧ t = t' := by
  induction l generalizing l' s with
  | nil =>
    cases l' with
    | nil => exact ⟨rfl, by simpa [frs] using h.eq.symm.trans h'.eq⟩
    | cons r l' =>
      have e := h.eq.symm.trans h'.eq
      have h1 := h.last
      simp only [frs, List.nil_append, List.append_assoc] at e
      rw [e, take1_of r _ (h'.small r (by simp))] at h1
      exact absurd h1 (by simp)
  | cons r l ih =>
    cases l' with
    | nil =>
      have e := h'.eq.symm.trans h.eq
      have h1 := h'.last
      simp only [frs, List.nil_append, List.append_assoc] at e
      rw [e, take1_of r _ (h.small r (by simp))] at h1
      exact absurd h1 (by simp)
    | cons r' l' =>
      have e := h.eq.symm.trans h'.eq
      simp only [frs, List.append_assoc] at e
      have e1 := take1_of r (frs l ++ t) (h.small r (by simp))
      rw [e, take1_of r' _ (h'.small r' (by simp))] at e1
      simp only [Option.some.injEq, Prod.mk.injEq] at e1
      obtain ⟨rfl, e2⟩ := e1
      obtain ⟨rfl, rfl⟩ := ih (s := frs l ++ t) ⟨rfl, fun x hx => h.small x (by simp [hx]), h.last⟩ ⟨e2.symm, fun x hx => h'.small x (by simp [hx]), h'.last⟩
      exact ⟨rfl, rfl⟩
theorem read_eq {s t : List UInt8} {l : List (List UInt8)} (h : Rd s l t) : read s = (l, t) := by
  obtain ⟨h1, h2⟩ := rd_one (read_rd s) h
  exact Prod.ext h1 h2
theorem rd_len {s t : List UInt8} {l : List (List UInt8)} (h : Rd s l t) : 5 * l.length + t.length ≤ s.length := by
  have := congrArg List.length h.eq
  rw [List.length_append] at this
  have := frs_len l
  omega

/-- How many whole frames k bytes hold. -/
def pre : List (List UInt8) → Nat → Nat
  | [], _ => 0
  | r :: l, k => if (frm r).length ≤ k then pre l (k - (frm r).length) + 1 else 0
theorem pre_le (l : List (List UInt8)) (k : Nat) : pre l k ≤ l.length := by
  induction l generalizing k with
  | nil => simp [pre]
  | cons r l ih =>
    unfold pre
    split
    · have := ih (k - (frm r).length); simp; omega
    · simp
theorem rd_cut (l : List (List UInt8)) (hl : ∀ r ∈ l, r.length ≤ 65536) (k : Nat) : ∃ t, Rd ((frs l).take k) (l.take (pre l k)) t := by
  induction l generalizing k with
  | nil => exact ⟨[], by simp [frs], by simp, take1_nil⟩
  | cons r l ih =>
    unfold pre
    by_cases hk : (frm r).length ≤ k
    · rw [if_pos hk]
      obtain ⟨t, R⟩ := ih (fun x hx => hl x (by simp [hx])) (k - (frm r).length)
      refine ⟨t, ?_, ?_, R.last⟩
      · rw [List.take_succ_cons, frs, frs, List.append_assoc, ← R.eq, List.take_append, List.take_of_length_le hk]
      · intro x hx
        rw [List.take_succ_cons] at hx
        rcases List.mem_cons.1 hx with rfl | hx
        · exact hl _ (by simp)
        · exact R.small x hx
    · rw [if_neg hk]
      refine ⟨(frm r).take k, ?_, by simp, take1_cut (hl r (by simp)) (by omega)⟩
      rw [frs, List.take_append_of_le_length (by omega)]
      simp [frs]
end Pp
