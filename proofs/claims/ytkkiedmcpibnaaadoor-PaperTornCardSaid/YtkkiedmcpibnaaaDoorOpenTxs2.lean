/- Opening what came in: slices of texts, with the reach of a process. -/
import Derived.Test.YtkkiedmcpibnaaaDoorOpenTxs
namespace Go.Proofs.YtkkiedmcpibnaaaDoor
open Go.RowKit Go.ChangeShapes Go.WideShapes Go.ChangeAt

section
variable {H : Type} {enc : TypeId × Value → H} {W : World} {n : Nat} {t : TypeId} {v : Value} {y : DataW H × List MemPlace}

theorem trod_txsD (ht : Tryd.prog.underlying t = some (.slice 9)) (h : DataW.trod enc Tryd.prog W 0 (fun _ => true) true n t [v] = some y) :
    ∃ ls, TxAt W v ls ∧ (ls = [] ∨ ∃ sp, y.1 = .slice (ls.map fun l => .lit (.string l)) sp) := by
  rcases open_strings ht Tryd.underlying9 (by kernel_rfl) h with ⟨hv, rfl⟩ | ⟨a, len, cap, ss, hv, _, hl, _, hlen, rfl, hc, _⟩
  · cases hv
    exact ⟨[], .inl ⟨_, _, rfl, rfl⟩, .inl rfl⟩
  · cases hv
    simp only [if_true] at hlen
    have hle : ((ss.take len).map fun s => s.data.toList).length = len := by simp; omega
    refine ⟨(ss.take len).map fun s => s.data.toList, ?_, .inr ⟨strs (ss.drop len), ?_⟩⟩
    · by_cases h0 : ss.length = 0
      · obtain rfl : len = 0 := by omega
        exact .inl ⟨_, _, rfl, by simp⟩
      · have h1 := hc 0 (by omega)
        obtain ⟨b, off, spot⟩ := a
        have hspot : spot = none := by simpa [Addr.add] using World.cell?_spot h1
        subst hspot
        refine .inr ⟨b, off, cap, by rw [hle], fun i hi => ?_⟩
        have hi' : i < len := by rw [← hle]; exact hi
        have h2 := hc i (by omega)
        have ha : (⟨b, off, none⟩ : Addr).add i = ⟨b, off + i, none⟩ := by unfold Addr.add; split <;> simp_all
        rw [ha] at h2
        rw [h2]
        have hg : ss.getD i ByteArray.empty = ss[i]'(by omega) := by simp [List.getD, List.getElem?_eq_getElem (show i < ss.length by omega)]
        rw [hg]
        simp
    · simp only [strs, List.map_map]; rfl

theorem weights_in {P : Program} {e : TypeId} {d : DataW H} {es : List (DataW H)} (hd : d ∈ es) {m : Nat} (hn : m ∈ d.weights P e) : m ∈ DataW.weightsAll P e es := by
  induction es with
  | nil => cases hd
  | cons x es ih =>
    rw [DataW.weightsAll, List.mem_append]
    rcases List.mem_cons.1 hd with rfl | hd
    · exact .inl hn
    · exact .inr (ih hd)

theorem trod_txsR (ht : Tryd.prog.underlying t = some (.slice 9)) (h : DataW.trod enc Tryd.prog W 0 (fun _ => true) true n t [v] = some y)
    (hsz : (DataW.weights Tryd.prog t y.1).all (· ≤ reachBytes) = true) : ∃ ls, TxAt W v ls ∧ ls.length ≤ 8796093021952 ∧ ∀ l ∈ ls, l.length ≤ 140737488351232 := by
  obtain ⟨ls, hv, hd⟩ := trod_txsD ht h
  refine ⟨ls, hv, ?_⟩
  rcases hd with rfl | ⟨sp, hy⟩
  · simp
  · rw [hy] at hsz
    simp only [DataW.weights, ht, List.all_cons, Bool.and_eq_true, List.all_append] at hsz
    have hb : Tryd.prog.bytesOf 9 = 16 := by kernel_rfl
    refine ⟨?_, fun l hl => ?_⟩
    · have h1 := hsz.1
      rw [hb] at h1
      have h2 : ((ls.map fun l => (DataW.lit (.string l) : DataW H)).length + sp.length) * 16 ≤ reachBytes := of_decide_eq_true h1
      have h3 := reach_nat h2
      simp only [List.length_map] at h3
      omega
    · have h3 := hsz.2.1
      rw [List.all_eq_true] at h3
      have h4 := h3 l.length (weights_in (List.mem_map.2 ⟨l, hl, rfl⟩) (by simp [DataW.weights]))
      exact reach_nat (of_decide_eq_true h4)
end
/-- The reach of one argument, or of one field. -/
theorem sized_at {H : Type} {P : Program} {ts : List TypeId} {ds : List (DataW H)} {j : Nat} {t : TypeId} {d : DataW H} (h : (DataW.weightsEach P ts ds).all (· ≤ reachBytes) = true) (ht : ts[j]? = some t) (hd : ds[j]? = some d) : (DataW.weights P t d).all (· ≤ reachBytes) = true :=
  List.all_eq_true.2 fun n hn => List.all_eq_true.1 h n (DataW.weights_mem_each ht hd n hn)
end Go.Proofs.YtkkiedmcpibnaaaDoor
