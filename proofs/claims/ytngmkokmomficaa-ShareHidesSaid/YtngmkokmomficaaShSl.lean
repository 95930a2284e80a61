/- Polynomials and shares, as the cells of a slice. -/
import Derived.Test.YtngmkokmomficaaGaussIfaceS
import Derived.Test.YtngmkokmomficaaShareFun
namespace Go.Proofs.Ytngmkokmomficaa
open Go.RowKit

def elems (p : List Ga.E) : List Value := p.flatMap fun c => [iv c.1, iv c.2]
theorem elems_cons (c : Ga.E) (p : List Ga.E) : elems (c :: p) = iv c.1 :: iv c.2 :: elems p := rfl
theorem elems_len (p : List Ga.E) : (elems p).length = p.length * 2 := by
  induction p with
  | nil => rfl
  | cons c p ih => rw [elems_cons, List.length_cons, List.length_cons, ih, List.length_cons]; omega
theorem elems_at (p : List Ga.E) (k : Nat) (h : k < p.length) : (elems p)[k * 2]? = some (iv p[k].1) ∧ (elems p)[k * 2 + 1]? = some (iv p[k].2) := by
  induction p generalizing k with
  | nil => simp at h
  | cons c p ih =>
    cases k with
    | zero => simp [elems_cons]
    | succ k =>
      have := ih k (by simpa using h)
      rw [elems_cons, show (k + 1) * 2 = k * 2 + 2 by omega, show k * 2 + 2 + 1 = (k * 2 + 1) + 2 by omega]
      simpa using this
theorem elems_app (p q : List Ga.E) : elems (p ++ q) = elems p ++ elems q := by unfold elems; rw [List.flatMap_append]
theorem elems_one (p : List Ga.E) : ∀ u ∈ elems p, u.oneCell' = true := by
  intro u hu
  obtain ⟨c, _, hc⟩ := List.mem_flatMap.1 hu
  simp only [List.mem_cons, List.not_mem_nil, or_false] at hc
  rcases hc with rfl | rfl <;> rfl
/-- A polynomial, opened. -/
theorem flat_elems {w w' : World} {s : Value} {p : List Ga.E} (h : FlatAt w s 2 (elems p)) (hb : Below w.heap.size w w') :
    (p = [] ∧ ∃ a cap, s = .slice a 0 cap) ∨ (0 < p.length ∧ ∃ b off cap, s = .slice (some ⟨b, off, none⟩) p.length cap ∧ b < w.heap.size ∧ ∀ k (hk : k < p.length), w'.cell? ⟨b, off + k * 2, none⟩ = some (.int .i64 p[k].1) ∧ w'.cell? ⟨b, off + k * 2 + 1, none⟩ = some (.int .i64 p[k].2)) := by
  by_cases h0 : p.length = 0
  · have e : p = [] := List.length_eq_zero_iff.1 h0
    obtain ⟨a, cap, rfl⟩ := h.len (n := p.length) (elems_len p) (by omega)
    subst e
    exact .inl ⟨rfl, _, _, rfl⟩
  · obtain ⟨b, off, cap, rfl, hc⟩ := h.at (n := p.length) (elems_len p) (by omega) (by omega)
    have hlt := World.block_lt_of_cell? w _ (hc 0 (by rw [elems_len]; omega))
    refine .inr ⟨by omega, b, off, cap, rfl, hlt, fun k hk => ?_⟩
    obtain ⟨h1, h2⟩ := elems_at p k hk
    have l1 : k * 2 < (elems p).length := by rw [elems_len]; omega
    have l2 : k * 2 + 1 < (elems p).length := by rw [elems_len]; omega
    rw [List.getElem?_eq_getElem l1] at h1
    rw [List.getElem?_eq_getElem l2] at h2
    injection h1 with h1
    injection h2 with h2
    exact ⟨by rw [below_cell hb (hc (k * 2) l1), h1]; rfl, by rw [Nat.add_assoc, below_cell hb (hc (k * 2 + 1) l2), h2]; rfl⟩

def shrs (l : List Sr.Shr) : List Value := l.flatMap fun s => [iv s.1, iv s.2.1, iv s.2.2]
theorem shrs_cons (s : Sr.Shr) (l : List Sr.Shr) : shrs (s :: l) = iv s.1 :: iv s.2.1 :: iv s.2.2 :: shrs l := rfl
theorem shrs_len (l : List Sr.Shr) : (shrs l).length = l.length * 3 := by
  induction l with
  | nil => rfl
  | cons c p ih => rw [shrs_cons, List.length_cons, List.length_cons, List.length_cons, ih, List.length_cons]; omega
theorem shrs_at (l : List Sr.Shr) (k : Nat) (h : k < l.length) : (shrs l)[k * 3]? = some (iv l[k].1) ∧ (shrs l)[k * 3 + 1]? = some (iv l[k].2.1) ∧ (shrs l)[k * 3 + 2]? = some (iv l[k].2.2) := by
  induction l generalizing k with
  | nil => simp at h
  | cons c p ih =>
    cases k with
    | zero => simp [shrs_cons]
    | succ k =>
      have := ih k (by simpa using h)
      rw [shrs_cons, show (k + 1) * 3 = k * 3 + 3 by omega, show k * 3 + 3 + 1 = (k * 3 + 1) + 3 by omega, show k * 3 + 3 + 2 = (k * 3 + 2) + 3 by omega]
      simpa using this
theorem shrs_app (l m : List Sr.Shr) : shrs (l ++ m) = shrs l ++ shrs m := by unfold shrs; rw [List.flatMap_append]
theorem shrs_one (l : List Sr.Shr) : ∀ u ∈ shrs l, u.oneCell' = true := by
  intro u hu
  obtain ⟨c, _, hc⟩ := List.mem_flatMap.1 hu
  simp only [List.mem_cons, List.not_mem_nil, or_false] at hc
  rcases hc with rfl | rfl | rfl <;> rfl
/-- Shares, opened. -/
theorem flat_shrs {w w' : World} {s : Value} {l : List Sr.Shr} (h : FlatAt w s 3 (shrs l)) (hb : Below w.heap.size w w') :
    (l = [] ∧ ∃ a cap, s = .slice a 0 cap) ∨ (0 < l.length ∧ ∃ b off cap, s = .slice (some ⟨b, off, none⟩) l.length cap ∧ b < w.heap.size ∧ ∀ k (hk : k < l.length), w'.cell? ⟨b, off + k * 3, none⟩ = some (.int .i64 l[k].1) ∧ w'.cell? ⟨b, off + k * 3 + 1, none⟩ = some (.int .i64 l[k].2.1) ∧ w'.cell? ⟨b, off + k * 3 + 1 + 1, none⟩ = some (.int .i64 l[k].2.2)) := by
  by_cases h0 : l.length = 0
  · have e : l = [] := List.length_eq_zero_iff.1 h0
    obtain ⟨a, cap, rfl⟩ := h.len (n := l.length) (shrs_len l) (by omega)
    subst e
    exact .inl ⟨rfl, _, _, rfl⟩
  · obtain ⟨b, off, cap, rfl, hc⟩ := h.at (n := l.length) (shrs_len l) (by omega) (by omega)
    have hlt := World.block_lt_of_cell? w _ (hc 0 (by rw [shrs_len]; omega))
    refine .inr ⟨by omega, b, off, cap, rfl, hlt, fun k hk => ?_⟩
    obtain ⟨h1, h2, h3⟩ := shrs_at l k hk
    have l1 : k * 3 < (shrs l).length := by rw [shrs_len]; omega
    have l2 : k * 3 + 1 < (shrs l).length := by rw [shrs_len]; omega
    have l3 : k * 3 + 2 < (shrs l).length := by rw [shrs_len]; omega
    rw [List.getElem?_eq_getElem l1] at h1
    rw [List.getElem?_eq_getElem l2] at h2
    rw [List.getElem?_eq_getElem l3] at h3
    injection h1 with h1
    injection h2 with h2
    injection h3 with h3
    exact ⟨by rw [below_cell hb (hc (k * 3) l1), h1]; rfl, by rw [Nat.add_assoc, below_cell hb (hc (k * 3 + 1) l2), h2]; rfl, by rw [show off + k * 3 + 1 + 1 = off + (k * 3 + 2) by omega, below_cell hb (hc (k * 3 + 2) l3), h3]; rfl⟩

/-- A box behind a call that was made in a world that draws led to. -/
theorem EBox.kept2 {X W : World} {B : Nat} {x : Ga.E} (hb : Below X.heap.size X W) (h : EBox X B x) : EBox W B x := h.kept hb
end Go.Proofs.Ytngmkokmomficaa
