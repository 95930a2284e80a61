/- What 'Take' of a proof's bytes comes to, as the document takes it. -/
import Derived.Test.YtbkpekpajeaacaaCrTakeM
namespace Cr
open Dg
theorem take_stepR (s : List UInt8) (n : Int) : take s n = none ∨ ∃ p : Prf, take s n = (p, 0) ∧ takeText s 65536 = (Vt.bytes p.1, num p.2, 0) ∧ takeNum (num p.2) = (p.2, [], 0) ∧ enough n p.2 = 0 ∧ Vt.take (Vt.bytes p.1) n = (p.1, 0) := by
  rcases take_or s n with ⟨e, _⟩ | ⟨p, e, h, hx, hb⟩
  · exact .inl e
  · refine .inr ⟨p, e, ?_⟩
    obtain ⟨h1, h2⟩ := parts h hx [] 65536 (.inl (by omega))
    rw [List.append_nil, List.append_nil, hb] at h1
    rw [List.append_nil] at h2
    exact ⟨h1, h2, (fits_zero h).2, Vt.take_yes (fits_zero h).1 rfl⟩
theorem take_goodR {s t rest : List UInt8} {n : Int} {v : Nat} {u : Vt.Vtx} (h1 : takeText s 65536 = (t, rest, 0)) (h2 : takeNum rest = (v, [], 0)) (h3 : enough n v = 0) (h4 : Vt.take t n = (u, 0)) : take s n = ((u, v), 0) := by
  have hv : v < 18446744073709551616 := by have := takeNum_bound rest; rw [h2] at this; exact this
  have hr := takeNum_back _ _ _ h2
  have ht := (takeText_back _ _ _ _ h1).1
  rcases Vt.take_or t n with ⟨e, _⟩ | ⟨u', e, hm, hb⟩
  · rw [h4] at e; simp [Vt.none] at e
  · rw [h4] at e
    simp only [Prod.mk.injEq, and_true] at e
    subst e
    refine take_yes (p := (u, v)) ((fits_of (p := (u, v)) hm).trans h3) hv ?_
    rw [bytes, hb, ← ht, ← hr, List.append_nil]
theorem take_bad1R {s t rest : List UInt8} {n : Int} {e : Nat} (h1 : takeText s 65536 = (t, rest, e)) (he : e ≠ 0) : take s n = none := by
  rcases take_stepR s n with h | ⟨p, _, h, _⟩
  · exact h
  · rw [h1] at h
    simp only [Prod.mk.injEq] at h
    exact absurd h.2.2 he
theorem take_bad2R {s t rest r2 : List UInt8} {n : Int} {e v : Nat} (h1 : takeText s 65536 = (t, rest, 0)) (h2 : takeNum rest = (v, r2, e)) (he : e ≠ 0 ∨ r2 ≠ [] ∨ enough n v ≠ 0 ∨ (Vt.take t n).2 ≠ 0) : take s n = none := by
  rcases take_stepR s n with h | ⟨p, _, h, h', h3, h4⟩
  · exact h
  · rw [h1] at h
    simp only [Prod.mk.injEq, and_true] at h
    obtain ⟨rfl, rfl⟩ := h
    rw [h2] at h'
    simp only [Prod.mk.injEq] at h'
    obtain ⟨rfl, rfl, rfl⟩ := h'
    rw [h4] at he
    rcases he with he | he | he | he
    · exact absurd rfl he
    · exact absurd rfl he
    · exact absurd h3 he
    · exact absurd rfl he
end Cr
