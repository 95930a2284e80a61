/- A book that came in: the bound on its texts. -/
import Derived.Test.YtpodccgaigkalaaOpenSl
namespace Go.Proofs.Ytpodccgaigkalaa
open Go.RowKit Go.ChangeShapes Go.WideShapes Go.ChangeAt

theorem weights_mem {H : Type} {P : Program} {e : TypeId} {d : DataW H} {es : List (DataW H)} (hd : d ∈ es) {n : Nat} (hn : n ∈ d.weights P e) : n ∈ DataW.weightsAll P e es := by
  induction es with
  | nil => cases hd
  | cons x es ih =>
    rw [DataW.weightsAll, List.mem_append]
    rcases List.mem_cons.1 hd with rfl | hd
    · exact .inl hn
    · exact .inr (ih hd)

theorem trod_seals2 {H : Type} {enc : TypeId × Value → H} {W : World} {n : Nat} {v : Value} {y : DataW H × List MemPlace} (h : DataW.trod enc Try.prog W 0 (fun _ => true) true n 22 [v] = some y)
    (hsz : (DataW.weights Try.prog 22 y.1).all (· ≤ reachBytes) = true) :
    ∃ l, BookAt W v l ∧ l.length ≤ 5864062014634 ∧ ∀ s ∈ l, s.2.length ≤ 140737488351232 := by
  obtain ⟨l, hv, _, hl⟩ := trod_seals Try.underlying22 h
  have hlen := seals_reach hl hsz
  refine ⟨l, hv, hlen, ?_⟩
  rcases Go.Deep.open_slice_pairs Try.underlying22 Try.underlying24 (by kernel_rfl) rfl rfl (by kernel_rfl) (by kernel_rfl) h with ⟨hv2, rfl⟩ | ⟨a, len, cap, m, k, V0, V1, D0, D1, P0, P1, hv2, _, hll, hcap, hm, rfl, hc⟩
  · cases hv2
    rcases hv with ⟨_, _, rfl⟩ | ⟨b, off, cap, e, _, _, _⟩
    · intro s hs; cases hs
    · cases e
  · cases hv2
    simp only [if_true] at hm
    subst hm
    rcases hv with ⟨_, _, rfl⟩ | ⟨b, off, cap', e, _, _, hcc⟩
    · intro s hs; cases hs
    · simp only [Value.slice.injEq, Option.some.injEq] at e
      obtain ⟨rfl, rfl, rfl⟩ := e
      intro s hs
      obtain ⟨i, hi, rfl⟩ := List.getElem_of_mem hs
      obtain ⟨_, h1, _, t1⟩ := hc i (by omega)
      obtain ⟨u, e1, e2⟩ := trod_tx Try.underlying9 t1
      have ha : ∀ j, (⟨b, off, none⟩ : Addr).add j = ⟨b, off + j, none⟩ := fun j => by unfold Addr.add; split <;> simp_all
      rw [ha, ← Nat.add_assoc, (hcc i hi).2, e1] at h1
      have hu : l[i].2 = u := by
        injection h1 with h1
        have := congrArg (fun v => match v with | Value.string b => b.data.toList | _ => []) h1
        simpa using this
      rw [hu]
      have hD : D1 i = .lit (.string u) := congrArg Prod.fst e2
      simp only [DataW.weights, Try.underlying22, List.all_cons, Bool.and_eq_true, List.all_append] at hsz
      have h3 := hsz.2.1
      rw [List.all_eq_true] at h3
      have h4 : u.length ∈ (DataW.agg [D0 i, D1 i] : DataW H).weights Try.prog 24 := by
        rw [hD]
        simp [DataW.weights, Try.underlying24, DataW.weightsEach]
      have h5 := h3 _ (weights_mem (List.mem_map.2 ⟨i, List.mem_range.2 hi, rfl⟩) h4)
      have h6 : u.length ≤ reachBytes := of_decide_eq_true h5
      exact h6
end Go.Proofs.Ytpodccgaigkalaa
