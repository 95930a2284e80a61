/- Batches as bytes, and back: plain functions. No program is named here. -/
import Derived.Test.YtflmfbcjmjlkbaaDoorDigInv
namespace Bt
open Dg

/-- A batch: its origin, its number, its texts. -/
abbrev Bat := Int × Int × List (List UInt8)
def may (b : Bat) : Bool := decide (1 ≤ b.1 ∧ b.1 ≤ 64 ∧ 1 ≤ b.2.1 ∧ b.2.1 ≤ 1073741824 ∧ 1 ≤ b.2.2.length ∧ b.2.2.length ≤ 4 ∧ ∀ t ∈ b.2.2, 1 ≤ t.length ∧ t.length ≤ 48)
def bytes (b : Bat) : List UInt8 := num b.1.toNat ++ num b.2.1.toNat ++ row b.2.2
/-- What 'Bytes' answers. -/
def bytesR (b : Bat) : List UInt8 × Nat := if may b = true then (bytes b, 0) else ([], 1)
def none : Bat × Nat := ((0, 0, []), 3)
/-- What 'Take' answers. -/
def take (s : List UInt8) : Bat × Nat :=
  if (takeNum s).2.2 ≠ 0 then none
  else if (takeNum (takeNum s).2.1).2.2 ≠ 0 then none
  else if (takeRow (takeNum (takeNum s).2.1).2.1 4 48).2.2 ≠ 0 then none
  else if (takeRow (takeNum (takeNum s).2.1).2.1 4 48).2.1 ≠ [] then none
  else if may (((takeNum s).1 : Int), ((takeNum (takeNum s).2.1).1 : Int), (takeRow (takeNum (takeNum s).2.1).2.1 4 48).1) = true then
    ((((takeNum s).1 : Int), ((takeNum (takeNum s).2.1).1 : Int), (takeRow (takeNum (takeNum s).2.1).2.1 4 48).1), 0) else none

theorem may_iff (b : Bat) : may b = true ↔ 1 ≤ b.1 ∧ b.1 ≤ 64 ∧ 1 ≤ b.2.1 ∧ b.2.1 ≤ 1073741824 ∧ 1 ≤ b.2.2.length ∧ b.2.2.length ≤ 4 ∧ ∀ t ∈ b.2.2, 1 ≤ t.length ∧ t.length ≤ 48 := by
  rw [may, decide_eq_true_iff]

theorem take1 {s a : List UInt8} {o x : Nat} (h : takeNum s = (o, a, x)) (hx : x ≠ 0) : take s = none := by
  unfold take; rw [if_pos]; rw [h]; exact hx
theorem take2 {s a b : List UInt8} {o q y : Nat} (h : takeNum s = (o, a, 0)) (h2 : takeNum a = (q, b, y)) (hy : y ≠ 0) : take s = none := by
  unfold take; rw [h, if_neg (by simp), h2, if_pos]; exact hy
theorem take3 {s a b : List UInt8} {o q : Nat} {l : List (List UInt8)} {c : List UInt8} {z : Nat} (h : takeNum s = (o, a, 0)) (h2 : takeNum a = (q, b, 0)) (h3 : takeRow b 4 48 = (l, c, z))
    (hb : z ≠ 0 ∨ c ≠ [] ∨ may ((o : Int), (q : Int), l) = false) : take s = none := by
  unfold take; rw [h, if_neg (by simp), h2, if_neg (by simp), h3]
  by_cases h1 : z = 0
  · subst h1
    rw [if_neg (by simp)]
    by_cases h4 : c = []
    · subst h4
      rw [if_neg (by simp)]
      have : may ((o : Int), (q : Int), l) = false := by
        rcases hb with hb | hb | hb
        · exact absurd rfl hb
        · exact absurd rfl hb
        · exact hb
      rw [if_neg (by simp [this])]
    · rw [if_pos h4]
  · rw [if_pos h1]
theorem take4 {s a b : List UInt8} {o q : Nat} {l : List (List UInt8)} (h : takeNum s = (o, a, 0)) (h2 : takeNum a = (q, b, 0)) (h3 : takeRow b 4 48 = (l, [], 0))
    (hm : may ((o : Int), (q : Int), l) = true) : take s = (((o : Int), (q : Int), l), 0) := by
  unfold take; rw [h, if_neg (by simp), h2, if_neg (by simp), h3, if_neg (by simp), if_neg (by simp), if_pos hm]

/-- What is taken is a batch that may be, of just these bytes; or none. -/
theorem take_or (s : List UInt8) : take s = none ∨ ∃ b, take s = (b, 0) ∧ may b = true ∧ bytes b = s := by
  obtain ⟨o, a, x, h1⟩ : ∃ o a x, takeNum s = (o, a, x) := ⟨_, _, _, rfl⟩
  by_cases hx : x = 0
  · subst hx
    obtain ⟨q, b, y, h2⟩ : ∃ q b y, takeNum a = (q, b, y) := ⟨_, _, _, rfl⟩
    by_cases hy : y = 0
    · subst hy
      obtain ⟨l, c, z, h3⟩ : ∃ l c z, takeRow b 4 48 = (l, c, z) := ⟨_, _, _, rfl⟩
      by_cases hb : z ≠ 0 ∨ c ≠ [] ∨ may ((o : Int), (q : Int), l) = false
      · exact .inl (take3 h1 h2 h3 hb)
      · have hz : z = 0 := by
          rcases Nat.eq_zero_or_pos z with e | e
          · exact e
          · exact absurd (.inl (by omega)) hb
        subst hz
        have hc : c = [] := by
          rcases Classical.em (c = []) with e | e
          · exact e
          · exact absurd (.inr (.inl e)) hb
        subst hc
        have hm : may ((o : Int), (q : Int), l) = true := by
          cases e : may ((o : Int), (q : Int), l) with
          | true => rfl
          | false => exact absurd (.inr (.inr e)) hb
        refine .inr ⟨_, take4 h1 h2 h3 hm, hm, ?_⟩
        have e1 := takeNum_back s a o h1
        have e2 := takeNum_back a b q h2
        obtain ⟨e3, _⟩ := takeRow_back b [] l 4 48 h3
        simp only [bytes, Int.toNat_natCast]
        rw [List.append_nil] at e3
        rw [List.append_assoc, e3, e2, e1]
    · exact .inl (take2 h1 h2 hy)
  · exact .inl (take1 h1 hx)

/-- The bytes of a batch that may be, and whatever stands behind. -/
theorem parts (b : Bat) (more : List UInt8) (h : may b = true) : takeNum (bytes b ++ more) = (b.1.toNat, num b.2.1.toNat ++ (row b.2.2 ++ more), 0) ∧ takeNum (num b.2.1.toNat ++ (row b.2.2 ++ more)) = (b.2.1.toNat, row b.2.2 ++ more, 0) ∧ takeRow (row b.2.2 ++ more) 4 48 = (b.2.2, more, 0) := by
  rw [may_iff] at h
  obtain ⟨h1, h2, h3, h4, h5, h6, h7⟩ := h
  refine ⟨?_, ?_, ?_⟩
  · simp only [bytes, List.append_assoc]
    exact takeNum_num _ (by omega) _
  · exact takeNum_num _ (by omega) _
  · exact takeRow_row _ _ _ _ (by omega) (by omega) (fun t ht => by have := h7 t ht; omega) (fun t ht => by have := h7 t ht; omega)
theorem back (b : Bat) (h : may b = true) : take (bytes b) = (b, 0) := by
  obtain ⟨h1, h2, h3⟩ := parts b [] h
  simp only [List.append_nil] at h1 h2 h3
  obtain ⟨o, q, l⟩ := b
  have hm := h
  rw [may_iff] at h
  obtain ⟨o', rfl⟩ := Int.eq_ofNat_of_zero_le (show 0 ≤ o by simp only [] at h; omega)
  obtain ⟨q', rfl⟩ := Int.eq_ofNat_of_zero_le (show 0 ≤ q by simp only [] at h; omega)
  exact take4 h1 h2 h3 hm
theorem longer (b : Bat) (more : List UInt8) (h : may b = true) (hm : more ≠ []) : take (bytes b ++ more) = none := by
  obtain ⟨h1, h2, h3⟩ := parts b more h
  exact take3 h1 h2 h3 (.inr (.inl hm))
theorem cut (b : Bat) (k : Nat) (h : may b = true) (hk : k < (bytes b).length) : take ((bytes b).take k) = none := by
  rcases take_or ((bytes b).take k) with e | ⟨c, _, hc, e⟩
  · exact e
  · exfalso
    have hb := back b h
    have hne : (bytes b).drop k ≠ [] := by
      intro e
      have := congrArg List.length e
      simp at this
      omega
    have := longer c ((bytes b).drop k) hc hne
    rw [e, List.take_append_drop, hb] at this
    simp [none] at this
theorem apart (a b : Bat) (ha : may a = true) (hb : may b = true) : bytes a = bytes b ↔ a = b := by
  refine ⟨fun e => ?_, fun e => by rw [e]⟩
  have h1 := back a ha
  rw [e, back b hb] at h1
  simpa using h1.symm
theorem bytesR_ok {b : Bat} (h : may b = true) : bytesR b = (bytes b, 0) := by rw [bytesR, if_pos h]
theorem bytesR_no {b : Bat} (h : may b = false) : bytesR b = ([], 1) := by rw [bytesR, if_neg (by simp [h])]

theorem texts_48 (l : List (List UInt8)) (h : ∀ t ∈ l, 1 ≤ t.length ∧ t.length ≤ 48) : (texts l).length ≤ 57 * l.length := by
  induction l with
  | nil => simp [texts]
  | cons t l ih =>
    have h1 := h t (by simp)
    have h2 := ih fun x hx => h x (by simp [hx])
    have := num_len t.length
    simp only [texts, text, List.length_append, List.length_cons]
    omega
theorem bytes_len (b : Bat) (h : may b = true) : (bytes b).length ≤ 300 := by
  rw [may_iff] at h
  obtain ⟨h1, h2, h3, h4, h5, h6, h7⟩ := h
  have := texts_48 _ h7
  have n1 := num_len b.1.toNat
  have n2 := num_len b.2.1.toNat
  have n3 := num_len b.2.2.length
  simp only [bytes, row, List.length_append]
  omega
theorem takeO {s a : List UInt8} {o : Nat} (h : takeNum s = (o, a, 0)) (ho : 64 < o) : take s = none := by
  rcases take_or s with e | ⟨b, _, hm, hb⟩
  · exact e
  · exfalso
    obtain ⟨h1, _, _⟩ := parts b [] hm
    rw [List.append_nil, hb, h] at h1
    have h2 := (may_iff b).1 hm
    simp only [Prod.mk.injEq] at h1
    omega
theorem takeQ {s a b : List UInt8} {o q : Nat} (h : takeNum s = (o, a, 0)) (h2 : takeNum a = (q, b, 0)) (hq : 1073741824 < q) : take s = none := by
  rcases take_or s with e | ⟨c, _, hm, hb⟩
  · exact e
  · exfalso
    obtain ⟨h1, h3, _⟩ := parts c [] hm
    rw [List.append_nil, hb, h] at h1
    simp only [Prod.mk.injEq] at h1
    rw [← h1.2.1, h2] at h3
    simp only [Prod.mk.injEq] at h3
    have h4 := (may_iff c).1 hm
    omega
end Bt
