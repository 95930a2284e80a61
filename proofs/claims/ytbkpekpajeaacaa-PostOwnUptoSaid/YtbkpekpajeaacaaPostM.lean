/- What is taken was written; what is written has no beginning that was. -/
import Derived.Test.YtbkpekpajeaacaaPostK
namespace Po
open Go.RowKit
theorem tn_back {s : List UInt8} : ∀ {k : Nat} {l : List Nat} {r : List UInt8}, tn k s = some (l, r) → s = l.flatMap Dg.num ++ r ∧ ∀ v ∈ l, v < 18446744073709551616
  | 0, l, r, h => by
    rw [tn] at h
    simp only [Option.some.injEq, Prod.mk.injEq] at h
    rw [← h.1, ← h.2]
    simp
  | k + 1, l, r, h => by
    rw [tn] at h
    split at h
    · simp at h
    · rename_i l' r' h'
      obtain ⟨i1, i2⟩ := tn_back h'
      split at h
      · rename_i h0
        simp only [Option.some.injEq, Prod.mk.injEq] at h
        have hb := Dg.takeNum_back r' (Dg.takeNum r').2.1 (Dg.takeNum r').1 (Prod.ext rfl (Prod.ext rfl h0))
        have hv := Dg.takeNum_bound r'
        rw [h.2] at hb
        rw [← h.1]
        refine ⟨by rw [i1, List.flatMap_append, List.append_assoc, List.flatMap_cons, List.flatMap_nil, List.append_nil, hb], fun v hm => ?_⟩
        rcases List.mem_append.1 hm with hm | hm
        · exact i2 v hm
        · rw [List.mem_singleton.1 hm]; exact hv
      · simp at h
theorem wr {v : Nat} (h : v < 18446744073709551616) (h1 : 1 ≤ wrap64 (v : Int)) : (wrap64 (v : Int)).toNat = v := by
  unfold wrap64 at *; omega
theorem takeSay_or (s : List UInt8) : (takeSay s).2 = 3 ∨ ∃ p, takeSay s = (p, 0) ∧ sayR p = (s, 0) := by
  by_cases hk : kind s = 121
  · rw [takeSay, if_pos hk]
    cases s with
    | nil => exact absurd hk (by decide)
    | cons b s =>
      obtain rfl : b = 121 := hk
      rw [List.tail_cons]
      unfold decS
      split
      · rename_i a r v d ht
        split
        · rename_i hm
          obtain ⟨h1, h2⟩ := tn_back ht
          refine .inr ⟨_, rfl, ?_⟩
          rw [sayR_ok hm]
          rw [Bool.and_eq_true] at hm
          have hn := named_to hm.1
          have hs := seat_to hm.2
          simp only [nums, List.flatMap_cons, List.flatMap_nil, wr (h2 a (by simp)) hn.1, wr (h2 r (by simp)) hn.2.2.1, wr (h2 v (by simp)) hs.1]
          rw [h1]
          simp
        · exact .inl rfl
      · exact .inl rfl
  · rw [takeSay, if_neg hk]; exact .inl rfl
theorem takeBallot_or (s : List UInt8) : (takeBallot s).2 = 3 ∨ ∃ p, takeBallot s = (p, 0) ∧ ballotR p.1 p.2.1 p.2.2 = (s, 0) := by
  by_cases hk : kind s = 118
  · rw [takeBallot, if_pos hk]
    cases s with
    | nil => exact absurd hk (by decide)
    | cons b s =>
      obtain rfl : b = 118 := hk
      rw [List.tail_cons]
      unfold decB
      split
      · rename_i a r d ht
        split
        · rename_i hm
          obtain ⟨h1, h2⟩ := tn_back ht
          refine .inr ⟨_, rfl, ?_⟩
          rw [ballotR, if_pos hm]
          have hn := named_to hm
          simp only [nums, List.flatMap_cons, List.flatMap_nil, wr (h2 a (by simp)) hn.1, wr (h2 r (by simp)) hn.2.2.1]
          rw [h1]
          simp
        · exact .inl rfl
      · exact .inl rfl
  · rw [takeBallot, if_neg hk]; exact .inl rfl
theorem num_split {u v : Nat} {s t : List UInt8} (hu : u < 18446744073709551616) (hv : v < 18446744073709551616) (h : Dg.num u ++ s = Dg.num v ++ t) : u = v ∧ s = t := by
  have h1 := Dg.takeNum_num u hu s
  rw [h, Dg.takeNum_num v hv t] at h1
  simp only [Prod.mk.injEq, and_true] at h1
  exact ⟨h1.1.symm, h1.2.symm⟩
theorem say_shape {p : S} {a : List UInt8} (h : sayR p = (a, 0)) : ∃ x y z, x < 18446744073709551616 ∧ y < 18446744073709551616 ∧ z < 18446744073709551616 ∧ p.2.2.2.length = 32 ∧ a = 121 :: (Dg.num x ++ (Dg.num y ++ (Dg.num z ++ p.2.2.2))) := by
  unfold sayR at h
  split at h
  · rename_i hm
    obtain ⟨h1, h2, h3, h4, h5⟩ := named_to hm.1
    obtain ⟨h6, h7⟩ := seat_to hm.2
    simp only [Prod.mk.injEq, and_true] at h
    exact ⟨p.1.toNat, p.2.1.toNat, p.2.2.1.toNat, by omega, by omega, by omega, h5, by rw [← h]; simp [nums]⟩
  · simp at h
theorem ballot_shape {a0 r0 : Int} {d a : List UInt8} (h : ballotR a0 r0 d = (a, 0)) : ∃ x y, x < 18446744073709551616 ∧ y < 18446744073709551616 ∧ d.length = 32 ∧ a = 118 :: (Dg.num x ++ (Dg.num y ++ d)) := by
  unfold ballotR at h
  split at h
  · rename_i hm
    obtain ⟨h1, h2, h3, h4, h5⟩ := named_to hm
    simp only [Prod.mk.injEq, and_true] at h
    exact ⟨a0.toNat, r0.toNat, by omega, by omega, h5, by rw [← h]; simp [nums]⟩
  · simp at h
theorem say_pre {p p' : S} {a a' t : List UInt8} (h : sayR p = (a, 0)) (h' : sayR p' = (a', 0)) (e : a' ++ t = a) : t = [] := by
  obtain ⟨x, y, z, hx, hy, hz, hl, ha⟩ := say_shape h
  obtain ⟨x', y', z', hx', hy', hz', hl', ha'⟩ := say_shape h'
  rw [ha, ha'] at e
  simp only [List.cons_append, List.cons.injEq, true_and, List.append_assoc] at e
  have e3 := (num_split hz' hz (num_split hy' hy (num_split hx' hx e).2).2).2
  have := congrArg List.length e3
  rw [List.length_append] at this
  exact List.length_eq_zero_iff.1 (by omega)
theorem ballot_pre {a0 r0 a1 r1 : Int} {d d' a a' t : List UInt8} (h : ballotR a0 r0 d = (a, 0)) (h' : ballotR a1 r1 d' = (a', 0)) (e : a' ++ t = a) : t = [] := by
  obtain ⟨x, y, hx, hy, hl, ha⟩ := ballot_shape h
  obtain ⟨x', y', hx', hy', hl', ha'⟩ := ballot_shape h'
  rw [ha, ha'] at e
  simp only [List.cons_append, List.cons.injEq, true_and, List.append_assoc] at e
  have e3 := (num_split hy' hy (num_split hx' hx e).2).2
  have := congrArg List.length e3
  rw [List.length_append] at this
  exact List.length_eq_zero_iff.1 (by omega)
theorem say_cut {p : S} {a : List UInt8} {c : Nat} (h : sayR p = (a, 0)) (hc : c < a.length) : (takeSay (a.take c)).2 = 3 := by
  rcases takeSay_or (a.take c) with h' | ⟨p', _, h'⟩
  · exact h'
  · have := congrArg List.length (say_pre h h' (List.take_append_drop c a))
    rw [List.length_drop, List.length_nil] at this
    omega
theorem say_more {p : S} {a : List UInt8} {b : UInt8} (h : sayR p = (a, 0)) : (takeSay (a ++ [b])).2 = 3 := by
  rcases takeSay_or (a ++ [b]) with h' | ⟨p', _, h'⟩
  · exact h'
  · exact absurd (say_pre h' h rfl) (by simp)
theorem ballot_cut {a0 r0 : Int} {d a : List UInt8} {c : Nat} (h : ballotR a0 r0 d = (a, 0)) (hc : c < a.length) : (takeBallot (a.take c)).2 = 3 := by
  rcases takeBallot_or (a.take c) with h' | ⟨p', _, h'⟩
  · exact h'
  · have := congrArg List.length (ballot_pre h h' (List.take_append_drop c a))
    rw [List.length_drop, List.length_nil] at this
    omega
theorem ballot_more {a0 r0 : Int} {d a : List UInt8} {b : UInt8} (h : ballotR a0 r0 d = (a, 0)) : (takeBallot (a ++ [b])).2 = 3 := by
  rcases takeBallot_or (a ++ [b]) with h' | ⟨p', _, h'⟩
  · exact h'
  · exact absurd (ballot_pre h' h rfl) (by simp)
theorem say_len (s : S) : (sayR s).1.length ≤ 60 := by
  obtain ⟨⟨a, e⟩, h⟩ : ∃ R, sayR s = R := ⟨_, rfl⟩
  rw [h]
  by_cases he : e = 0
  · subst he
    obtain ⟨x, y, z, hx, hy, hz, hl, ha⟩ := say_shape h
    have := Dg.num_len x; have := Dg.num_len y; have := Dg.num_len z
    rw [ha]; simp only [List.length_cons, List.length_append]; omega
  · unfold sayR at h
    split at h
    · simp only [Prod.mk.injEq] at h; omega
    · simp only [Prod.mk.injEq] at h; rw [← h.1]; simp
theorem ballot_len (a0 r0 : Int) (d : List UInt8) : (ballotR a0 r0 d).1.length ≤ 60 := by
  obtain ⟨⟨a, e⟩, h⟩ : ∃ R, ballotR a0 r0 d = R := ⟨_, rfl⟩
  rw [h]
  by_cases he : e = 0
  · subst he
    obtain ⟨x, y, hx, hy, hl, ha⟩ := ballot_shape h
    have := Dg.num_len x; have := Dg.num_len y
    rw [ha]; simp only [List.length_cons, List.length_append]; omega
  · unfold ballotR at h
    split at h
    · simp only [Prod.mk.injEq] at h; omega
    · simp only [Prod.mk.injEq] at h; rw [← h.1]; simp
end Po
