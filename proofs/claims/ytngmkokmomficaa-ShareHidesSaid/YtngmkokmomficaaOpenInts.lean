/- Opening a slice of numbers that came in. -/
import Derived.Test.YtngmkokmomficaaBase
import Derived.ProofKit
import Derived.OpenShut
namespace Go.Proofs.Ytngmkokmomficaa
open Go.RowKit Go.ChangeShapes Go.WideShapes Go.ChangeAt

theorem trod_ints {H : Type} {enc : TypeId × Value → H} {W : World} {n : Nat} {t : TypeId} {v : Value} {y : DataW H × List MemPlace} (ht : Try.prog.underlying t = some (.slice 3))
    (h : DataW.trod enc Try.prog W 0 (fun _ => true) true n t [v] = some y) : ∃ l : List Int, FlatAt W v 1 (ints l) ∧ l.length ≤ 9223372036854775807 ∧ ∀ x ∈ l, -9223372036854775808 ≤ x ∧ x ≤ 9223372036854775807 := by
  rcases open_ints ht Try.underlying3 (by kernel_rfl) h with ⟨hv, _⟩ | ⟨a, len, cap, zs, hv, _, hl, hm, hz, _, hc, hw⟩
  · cases hv
    exact ⟨[], .inl ⟨_, _, rfl, rfl⟩, by simp, by simp⟩
  · cases hv
    simp only [if_true] at hz
    have hle : (zs.take len).length = len := by simp; omega
    unfold maxLen at hm
    have hb : ∀ x ∈ zs, -9223372036854775808 ≤ x ∧ x ≤ 9223372036854775807 := by
      intro x hx
      have := hw x hx
      simpa [Lit.wf, IntKind.min, IntKind.max, IntKind.signed, IntKind.bits] using this
    refine ⟨zs.take len, ?_, by omega, fun x hx => hb x (List.mem_of_mem_take hx)⟩
    by_cases h0 : zs.length = 0
    · obtain rfl : len = 0 := by omega
      exact .inl ⟨_, _, rfl, by simp [ints]⟩
    · have h1 := hc 0 (by omega)
      obtain ⟨b, off, spot⟩ := a
      have hspot : spot = none := by simpa [Addr.add] using World.cell?_spot h1
      subst hspot
      refine .inr ⟨b, off, len, cap, rfl, by rw [ints_len, hle], fun i hi => ?_⟩
      have hi' : i < len := by rw [ints_len, hle] at hi; omega
      have h2 := hc i (by omega)
      have ha : (⟨b, off, none⟩ : Addr).add i = ⟨b, off + i, none⟩ := by unfold Addr.add; split <;> simp_all
      rw [ha] at h2
      rw [h2, ints_at _ i (by omega)]
      have hg : zs.getD i 0 = zs[i]'(by omega) := by simp [List.getD, List.getElem?_eq_getElem (show i < zs.length by omega)]
      rw [hg]
      simp [iv]
end Go.Proofs.Ytngmkokmomficaa
