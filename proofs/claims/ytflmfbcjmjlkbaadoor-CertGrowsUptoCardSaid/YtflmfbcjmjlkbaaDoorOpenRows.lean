/- Opening a slice that came in, of whatever elements: each element's cells, by a predicate of one's own. -/
import Derived.Test.YtflmfbcjmjlkbaaDoorOpenOne
import Derived.Deep.Slices
import Derived.Deep.Fields
import Derived.Lib.SmallJoins
namespace Go.Proofs.YtflmfbcjmjlkbaaDoor
open Go.RowKit Go.ChangeShapes Go.WideShapes Go.ChangeAt

theorem addr_add2 (a : Addr) (i j : Nat) : (a.add i).add j = a.add (i + j) := by
  unfold Addr.add
  by_cases h1 : i = 0 <;> by_cases h2 : j = 0 <;> simp [h1, h2, Nat.add_assoc]

/-- l stands at the address: each element's K cells meet Q. -/
def RowsAt {α : Type} (K : Nat) (Q : α → List Value → Prop) (w : World) (ad : Addr) (l : List α) : Prop :=
  ∀ k (h : k < l.length), ∃ cs : List Value, cs.length = K ∧ Q l[k] cs ∧ ∀ j u, cs[j]? = some u → w.cell? (ad.add (k * K + j)) = some u

theorem open_rows {α H : Type} {enc : TypeId × Value → H} {W : World} {n : Nat} {t e : TypeId} {K : Nat} {v : Value} {y : DataW H × List MemPlace} (Q : α → List Value → DataW H → Prop)
    (ht : Tryd.prog.underlying t = some (.slice e)) (ce : Tryd.prog.cellsOf e = K) (hK : 0 < K)
    (elem : ∀ (n : Nat) (cs : List Value) (x : DataW H × List MemPlace), cs.length = K → DataW.trod enc Tryd.prog W 0 (fun _ => true) true n e cs = some x → ∃ a, Q a cs x.1)
    (h : DataW.trod enc Tryd.prog W 0 (fun _ => true) true n t [v] = some y) :
    (v = .slice none 0 0 ∧ y.1 = .nil) ∨ ∃ (ad : Addr) (cap : Nat) (l : List α) (D sp : List (DataW H)), v = .slice (some ad) l.length cap ∧ l.length ≤ cap ∧ cap ≤ maxLen ∧ (0 < cap → ad.spot = none) ∧ y.1 = .slice D sp ∧ D.length = l.length ∧
      ∀ k (h : k < l.length) (h' : k < D.length), ∃ cs : List Value, cs.length = K ∧ Q l[k] cs D[k] ∧ ∀ j u, cs[j]? = some u → W.cell? (ad.add (k * K + j)) = some u := by
  rcases Go.Deep.open_slice ht h with ⟨hv, rfl⟩ | ⟨a, len, cap, m, n', D, Pl, hv, _, hl, hcap, hm, rfl, hx⟩
  · cases hv
    exact .inl ⟨rfl, rfl⟩
  · cases hv
    simp only [if_true] at hm
    subst hm
    have each : ∀ i : Fin len, ∃ b : α, ∃ cs : List Value, cs.length = K ∧ Q b cs (D i) ∧ ∀ j u, cs[j]? = some u → W.cell? (a.add (i * K + j)) = some u := by
      intro i
      obtain ⟨cs, h1, h2⟩ := hx i (by have := i.isLt; omega)
      rw [ce] at h1
      obtain ⟨_, hlen, hcell⟩ := World.cells?_some h1
      obtain ⟨b, hb⟩ := elem _ _ _ hlen h2
      refine ⟨b, cs, hlen, hb, fun j u hj => ?_⟩
      have hjl := (List.getElem?_eq_some_iff.1 hj).1
      rw [← addr_add2, hcell j (by omega), hj]
    let l : List α := List.ofFn fun i => (each i).choose
    have hll : l.length = len := by simp [l]
    have hlk : ∀ k (h : k < l.length), l[k] = (each ⟨k, by omega⟩).choose := by intro k h; simp [l]
    have hspot : 0 < m → a.spot = none := by
      intro h0
      obtain ⟨cs, h1, _⟩ := hx 0 h0
      rw [ce] at h1
      obtain ⟨_, hlen, hcell⟩ := World.cells?_some h1
      have := hcell 0 hK
      rw [List.getElem?_eq_getElem (by omega)] at this
      simpa [Addr.add] using World.cell?_spot this
    refine .inr ⟨a, m, l, (List.range len).map D, _, by rw [hll], by omega, hcap, hspot, rfl, by simp [hll], fun k h h' => ?_⟩
    · obtain ⟨cs, h1, h2, h3⟩ := (each ⟨k, by omega⟩).choose_spec
      exact ⟨cs, h1, by rw [hlk k h]; simpa using h2, h3⟩

theorem open_len {H : Type} {t e : TypeId} {D sp : List (DataW H)} {B : Nat} (ht : Tryd.prog.underlying t = some (.slice e)) (hb : Tryd.prog.bytesOf e = B)
    (h : (DataW.weights Tryd.prog t (.slice D sp)).all (· ≤ reachBytes) = true) : D.length * B ≤ 140737488351232 := by
  simp only [DataW.weights, ht, hb, List.all_cons, Bool.and_eq_true, decide_eq_true_iff] at h
  have h1 := h.1
  unfold reachBytes at h1
  exact Nat.le_trans (Nat.mul_le_mul_right _ (Nat.le_add_right _ _)) h1
end Go.Proofs.YtflmfbcjmjlkbaaDoor
