/- The shares of a polynomial, one behind the other. -/
import Derived.Test.YtngmkokmomficaaShOwn
namespace Go.Proofs.Ytngmkokmomficaa
open Go.RowKit Go.ChangeShapes Go.WideShapes Go.ChangeAt
attribute [local go_sem] build_el build_el0 build_el1 build_el2 guard_el eqE_self
attribute [local go_sem ↓] eq_elE

theorem shr_step (p : List Ga.E) (l : List Int) (j : Nat) (h : j < l.length) : Sr.shr p (l.take (j + 1)) = Sr.shr p (l.take j) ++ [(l[j], Sr.evalE p (l[j], 0))] := by
  rw [List.take_succ_eq_append_getElem h]
  unfold Sr.shr
  rw [List.map_append]
  rfl
theorem shr_take_len (p : List Ga.E) (l : List Int) (j : Nat) (h : j ≤ l.length) : (Sr.shr p (l.take j)).length = j := by
  rw [Sr.shr_len, List.length_take]
  omega
theorem shr_wide (p : List Ga.E) (l : List Int) (ha : Sr.apart l = true) : Wide (Sr.shr p l) := by
  intro s hs
  obtain ⟨i, hi, rfl⟩ := List.mem_map.1 hs
  have := ((Sr.apart_iff l).1 ha).1 i hi
  exact ⟨by simp only; omega, by simp only; omega⟩
theorem ofE_yes (p : List Ga.E) (hp : p.all Ga.ok = true) (l : List Int) (ha : Sr.apart l = true) (j : Nat) (h : j < l.length) : Sr.ofE p l[j] = ((l[j], Sr.evalE p (l[j], 0)), 0) := by
  have := ((Sr.apart_iff l).1 ha).1 _ (List.getElem_mem h)
  rw [Sr.ofE, hp, if_pos]
  simp [Sr.mayId]
  omega
end Go.Proofs.Ytngmkokmomficaa
