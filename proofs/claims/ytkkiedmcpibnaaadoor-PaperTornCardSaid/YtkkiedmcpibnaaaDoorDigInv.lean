/- Taking turns writing round, and the other way; no beginning of a row's bytes is one. No program is named here. -/
import Derived.Test.YtkkiedmcpibnaaaDoorDigRows
namespace Dg

theorem bytes_zero : bytes 0 = [] := rfl
theorem bytes_ne (v : Nat) (hv : v < 18446744073709551616) (h : v ≠ 0) : bytes v ≠ [] := by
  intro e
  have := ofB_bytes v hv
  rw [e] at this
  exact h this.symm

theorem takeNum_num (v : Nat) (hv : v < 18446744073709551616) (more : List UInt8) : takeNum (num v ++ more) = (v, more, 0) := by
  have hl := bytes_len v
  have e : (UInt8.ofNat (bytes v).length).toNat = (bytes v).length := by rw [UInt8.toNat_ofNat']; omega
  rw [num, List.cons_append, takeNum, e, if_neg (by omega), if_neg (by simp), if_neg, List.take_left, List.drop_left, ofB_bytes v hv]
  rintro ⟨h0, h1⟩
  have hh := bytes_head v hv
  cases hb : bytes v with
  | nil => rw [hb] at h0; simp at h0
  | cons x l => rw [hb] at hh h1; exact hh (by simpa using h1)

theorem bytesF_ofB (k : Nat) (l : List UInt8) (hk : l.length ≤ k) (h : l.headD 1 ≠ 0) : bytesF k (ofB l) = l := by
  induction k generalizing l with
  | zero => have : l = [] := List.length_eq_zero_iff.1 (by omega); subst this; simp [bytesF]
  | succ k ih =>
    rcases List.eq_nil_or_concat l with rfl | ⟨l', b, rfl⟩
    · simp [ofB, bytesF_zero]
    · rw [List.concat_eq_append] at h hk ⊢
      have hb := b.toNat_lt
      have e1 : (ofB l' * 256 + b.toNat) / 256 = ofB l' := by omega
      have e2 : (ofB l' * 256 + b.toNat) % 256 = b.toNat := by omega
      have h' : l'.headD 1 ≠ 0 := by
        cases l' with
        | nil => simp
        | cons x l'' => simpa using h
      have hne : ofB (l' ++ [b]) ≠ 0 := by
        have := ofB_ge (l' ++ [b]) h (by simp)
        have : 0 < 256 ^ ((l' ++ [b]).length - 1) := Nat.pow_pos (by omega)
        omega
      rw [bytesF_step k _ hne, ofB_snoc, e1, e2, ih l' (by simp at hk; omega) h']
      simp

theorem takeNum_back (s rest : List UInt8) (v : Nat) (h : takeNum s = (v, rest, 0)) : num v ++ rest = s := by
  cases s with
  | nil => simp [takeNum] at h
  | cons b r =>
    rw [takeNum] at h
    split at h
    · simp at h
    · rename_i h1
      split at h
      · simp at h
      · rename_i h2
        split at h
        · simp at h
        · rename_i h3
          simp only [Prod.mk.injEq] at h
          obtain ⟨rfl, rfl, _⟩ := h
          have hd : (r.take b.toNat).headD 1 ≠ 0 := by
            rcases Nat.eq_zero_or_pos b.toNat with e | e
            · rw [e]; simp
            · intro hh
              refine h3 ⟨e, ?_⟩
              cases r with
              | nil => simp at h2; omega
              | cons x r' =>
                obtain ⟨m, hm⟩ : ∃ m, b.toNat = m + 1 := ⟨b.toNat - 1, by omega⟩
                rw [hm] at hh
                simpa using hh
          have hl : (r.take b.toNat).length = b.toNat := by simp; omega
          rw [num, bytes, bytesF_ofB 8 _ (by omega) hd, hl]
          simp

theorem takeText_text (t more : List UInt8) (most : Int) (h : (t.length : Int) ≤ most) (ht : t.length < 18446744073709551616) : takeText (text t ++ more) most = (t, more, 0) := by
  rw [text, List.append_assoc]
  have e := takeNum_num t.length ht (t ++ more)
  unfold takeText
  rw [e]
  have ha : above t.length most = false := by simp [above]; omega
  simp [ha]
theorem takeTexts_texts (l : List (List UInt8)) (more : List UInt8) (most : Int) (h : ∀ t ∈ l, (t.length : Int) ≤ most) (ht : ∀ t ∈ l, t.length < 18446744073709551616) : takeTexts l.length (texts l ++ more) most = (l, more, 0) := by
  induction l with
  | nil => simp [takeTexts, texts]
  | cons t l ih =>
    have e := takeText_text t (texts l ++ more) most (h t (by simp)) (ht t (by simp))
    have e2 := ih (fun x hx => h x (by simp [hx])) (fun x hx => ht x (by simp [hx]))
    rw [List.length_cons, takeTexts, texts, List.append_assoc, e]
    simp only []
    rw [e2]
    simp
theorem takeRow_row (l : List (List UInt8)) (more : List UInt8) (many most : Int) (hm : (l.length : Int) ≤ many) (hl : l.length < 18446744073709551616) (h : ∀ t ∈ l, (t.length : Int) ≤ most) (ht : ∀ t ∈ l, t.length < 18446744073709551616) : takeRow (row l ++ more) many most = (l, more, 0) := by
  have e := takeNum_num l.length hl (texts l ++ more)
  unfold takeRow
  rw [row, List.append_assoc, e]
  have ha : above l.length many = false := by simp [above]; omega
  simp only [ha]
  simpa using takeTexts_texts l more most h ht

theorem takeText_back (s t rest : List UInt8) (most : Int) (h : takeText s most = (t, rest, 0)) : text t ++ rest = s ∧ (t.length : Int) ≤ most ∧ t.length < 18446744073709551616 := by
  unfold takeText at h
  have hb := takeNum_bound s
  split at h
  · rename_i h1; simp only [Prod.mk.injEq] at h; exact absurd h.2.2 h1
  · rename_i h1
    split at h
    · simp at h
    · rename_i h2
      split at h
      · simp at h
      · rename_i h3
        simp only [Prod.mk.injEq] at h
        obtain ⟨rfl, rfl, _⟩ := h
        have h0 : (takeNum s).2.2 = 0 := by simpa using h1
        have e := takeNum_back s (takeNum s).2.1 (takeNum s).1 (by rw [← h0])
        have hl : ((takeNum s).2.1.take (takeNum s).1).length = (takeNum s).1 := by simp; omega
        refine ⟨?_, ?_, ?_⟩
        · rw [text, hl, List.append_assoc, List.take_append_drop]; exact e
        · rw [hl]; simp [above] at h2; omega
        · rw [hl]; exact hb
theorem takeTexts_back (n : Nat) (s rest : List UInt8) (l : List (List UInt8)) (most : Int) (h : takeTexts n s most = (l, rest, 0)) : texts l ++ rest = s ∧ l.length = n ∧ (∀ t ∈ l, (t.length : Int) ≤ most) ∧ ∀ t ∈ l, t.length < 18446744073709551616 := by
  induction n generalizing s l with
  | zero => simp only [takeTexts, Prod.mk.injEq] at h; obtain ⟨rfl, rfl, _⟩ := h; simp [texts]
  | succ n ih =>
    rw [takeTexts] at h
    split at h
    · rename_i h1; simp only [Prod.mk.injEq] at h; exact absurd h.2.2 h1
    · rename_i h1
      split at h
      · rename_i h2; simp only [Prod.mk.injEq] at h; exact absurd h.2.2 h2
      · rename_i h2
        simp only [Prod.mk.injEq] at h
        obtain ⟨rfl, rfl, _⟩ := h
        have h10 : (takeText s most).2.2 = 0 := by simpa using h1
        have h20 : (takeTexts n (takeText s most).2.1 most).2.2 = 0 := by simpa using h2
        obtain ⟨e1, m1, b1⟩ := takeText_back s (takeText s most).1 (takeText s most).2.1 most (by rw [← h10])
        obtain ⟨e2, l2, m2, b2⟩ := ih (takeText s most).2.1 (takeTexts n (takeText s most).2.1 most).1 (by rw [← h20])
        refine ⟨?_, by simp [l2], ?_, ?_⟩
        · rw [texts, List.append_assoc, e2, e1]
        · intro x hx
          rcases List.mem_cons.1 hx with rfl | hx
          · exact m1
          · exact m2 x hx
        · intro x hx
          rcases List.mem_cons.1 hx with rfl | hx
          · exact b1
          · exact b2 x hx
theorem takeRow_back (s rest : List UInt8) (l : List (List UInt8)) (many most : Int) (h : takeRow s many most = (l, rest, 0)) : row l ++ rest = s ∧ (l.length : Int) ≤ many ∧ l.length < 18446744073709551616 ∧ (∀ t ∈ l, (t.length : Int) ≤ most) ∧ ∀ t ∈ l, t.length < 18446744073709551616 := by
  unfold takeRow at h
  have hb := takeNum_bound s
  split at h
  · rename_i h1; simp only [Prod.mk.injEq] at h; exact absurd h.2.2 h1
  · rename_i h1
    split at h
    · simp at h
    · rename_i h2
      have h0 : (takeNum s).2.2 = 0 := by simpa using h1
      have e := takeNum_back s (takeNum s).2.1 (takeNum s).1 (by rw [← h0])
      obtain ⟨e1, l1, m1, b1⟩ := takeTexts_back _ _ _ _ _ h
      refine ⟨?_, ?_, by omega, m1, b1⟩
      · rw [row, List.append_assoc, e1, l1]; exact e
      · rw [l1]; simp [above] at h2; omega

/-- No beginning of a row's bytes is a row's. -/
theorem takeRow_cut (l : List (List UInt8)) (k : Nat) (many most : Int) (hk : k < (row l).length) (hl : l.length < 18446744073709551616) (ht : ∀ t ∈ l, t.length < 18446744073709551616) : (takeRow ((row l).take k) many most).2.2 ≠ 0 := by
  intro h0
  obtain ⟨ls, r, hR⟩ : ∃ ls r, takeRow ((row l).take k) many most = (ls, r, 0) := ⟨_, _, by rw [← h0]⟩
  obtain ⟨e, _, b1, _, b2⟩ := takeRow_back _ _ _ _ _ hR
  have e2 : row ls ++ (r ++ (row l).drop k) = row l ++ [] := by rw [← List.append_assoc, e, List.take_append_drop, List.append_nil]
  have t1 := takeRow_row ls (r ++ (row l).drop k) 18446744073709551616 18446744073709551616 (by omega) b1 (fun t h => by have := b2 t h; omega) b2
  have t2 := takeRow_row l [] 18446744073709551616 18446744073709551616 (by omega) hl (fun t h => by have := ht t h; omega) ht
  rw [e2, t2] at t1
  simp only [Prod.mk.injEq] at t1
  have := congrArg List.length t1.2.1
  simp at this
  omega
/-- No beginning of a number's bytes is a number's. -/
theorem takeNum_cut (v k : Nat) (hk : k < (num v).length) : (takeNum ((num v).take k)).2.2 = 2 := by
  have hl := bytes_len v
  have e : (UInt8.ofNat (bytes v).length).toNat = (bytes v).length := by rw [UInt8.toNat_ofNat']; omega
  cases k with
  | zero => simp [takeNum]
  | succ k =>
    rw [num, List.take_succ_cons, takeNum, e, if_neg (by omega), if_pos]
    rw [num] at hk
    simp at hk ⊢
    omega
end Dg
