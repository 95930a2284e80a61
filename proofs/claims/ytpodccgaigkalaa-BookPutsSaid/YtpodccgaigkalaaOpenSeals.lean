/- Opening a book that came in. -/
import Derived.Test.YtpodccgaigkalaaOpenOne
import Derived.Test.YtpodccgaigkalaaBkGo
import Derived.Deep.SlicePairs
import Derived.Lib.SmallJoins
namespace Go.Proofs.Ytpodccgaigkalaa
open Go.RowKit Go.ChangeShapes Go.WideShapes Go.ChangeAt

theorem bulk_len {H : Type} (D : Nat → DataW H) (m : Nat) : m ≤ Rows.uptoBulkAll ((List.range m).map D) := by
  have h1 : ∀ x : DataW H, 1 ≤ Rows.uptoBulk x := by
    intro x
    cases x with
    | lit y => cases y <;> simp [Rows.uptoBulk]
    | _ => simp [Rows.uptoBulk]
  have : ∀ xs : List (DataW H), xs.length ≤ Rows.uptoBulkAll xs := by
    intro xs
    induction xs with
    | nil => simp [Rows.uptoBulkAll]
    | cons x xs ih => have := h1 x; simp only [Rows.uptoBulkAll, List.length_cons]; omega
  have := this ((List.range m).map D)
  simpa using this

theorem trod_seals {H : Type} {enc : TypeId × Value → H} {W : World} {n : Nat} {t : TypeId} {v : Value} {y : DataW H × List MemPlace} (ht : Try.prog.underlying t = some (.slice 24)) (h : DataW.trod enc Try.prog W 0 (fun _ => true) true n t [v] = some y) :
    ∃ l, BookAt W v l ∧ l.length ≤ Rows.uptoBulk y.1 ∧ (l = [] ∨ ∃ es sp, y.1 = .slice es sp ∧ es.length = l.length) := by
  rcases Go.Deep.open_slice_pairs ht Try.underlying24 (by kernel_rfl) rfl rfl (by kernel_rfl) (by kernel_rfl) h with ⟨hv, rfl⟩ | ⟨a, len, cap, m, k, V0, V1, D0, D1, P0, P1, hv, _, hl, hcap, hm, rfl, hc⟩
  · cases hv
    exact ⟨[], .inl ⟨none, rfl, rfl⟩, by simp, .inl rfl⟩
  · cases hv
    simp only [if_true] at hm
    subst hm
    have hs : ∀ i, ∃ s : Bk.Sl, i < m → V0 i = iv s.1 ∧ V1 i = tx s.2 := by
      intro i
      by_cases hi : i < m
      · obtain ⟨_, _, h0, h1⟩ := hc i hi
        obtain ⟨x, _, _, e0, _⟩ := trod_i64 Try.underlying3 h0
        obtain ⟨u, e1, _⟩ := trod_tx Try.underlying9 h1
        exact ⟨(x, u), fun _ => ⟨e0, e1⟩⟩
      · exact ⟨(0, []), fun h => absurd h hi⟩
    let S : Nat → Bk.Sl := fun i => (hs i).choose
    have hS : ∀ i, i < m → V0 i = iv (S i).1 ∧ V1 i = tx (S i).2 := fun i hi => (hs i).choose_spec hi
    have hlen : ((List.range len).map S).length = len := by simp
    refine ⟨(List.range len).map S, ?_, ?_, .inr ⟨_, _, rfl, by simp⟩⟩
    · by_cases h0 : m = 0
      · obtain rfl : len = 0 := by omega
        subst h0
        exact .inl ⟨some a, rfl, by simp⟩
      · obtain ⟨h1, _, _, _⟩ := hc 0 (by omega)
        obtain ⟨b, off, spot⟩ := a
        have hspot : spot = none := by simpa [Addr.add] using World.cell?_spot h1
        subst hspot
        refine .inr ⟨b, off, m, by rw [hlen], by omega, hcap, fun i hi => ?_⟩
        have hi' : i < len := by rw [hlen] at hi; exact hi
        obtain ⟨c0, c1, _, _⟩ := hc i (by omega)
        have ha : ∀ j, (⟨b, off, none⟩ : Addr).add j = ⟨b, off + j, none⟩ := fun j => by unfold Addr.add; split <;> simp_all
        rw [ha] at c0 c1
        obtain ⟨e0, e1⟩ := hS i (by omega)
        rw [e0] at c0
        rw [e1] at c1
        have hg : ((List.range len).map S)[i] = S i := by simp
        rw [hg]
        exact ⟨c0, c1⟩
    · rw [hlen]
      simp only [Rows.uptoBulk]
      have := bulk_len (H := H) (fun i => .agg [D0 i, D1 i]) len
      omega

/-- No row of seals is longer than what a row's bytes may be. -/
theorem seals_reach {H : Type} {l : List Bk.Sl} {d : DataW H} (hd : l = [] ∨ ∃ es sp, d = .slice es sp ∧ es.length = l.length) (h : (DataW.weights Try.prog 22 d).all (· ≤ reachBytes) = true) : l.length ≤ 5864062014634 := by
  rcases hd with rfl | ⟨es, sp, rfl, he⟩
  · simp
  · have hb : Try.prog.bytesOf 24 = 24 := by kernel_rfl
    simp only [DataW.weights, Try.underlying22, hb, List.all_cons, Bool.and_eq_true, decide_eq_true_iff] at h
    have h1 := h.1
    unfold reachBytes at h1
    omega
end Go.Proofs.Ytpodccgaigkalaa
