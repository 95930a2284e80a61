/- Opening what came in: slices of texts, fields; and what the bound on the bulk says of them. -/
import Derived.Test.YtkkiedmcpibnaaaDoorOpenOne
import Derived.Test.YtkkiedmcpibnaaaDoorTxs
import Derived.Test.YtkkiedmcpibnaaaDoorDigRows
import Derived.SliceStrings
import Derived.Lib.SmallJoins
namespace Dg
/-- Each text, and one more. -/
def sizes : List (List UInt8) → Nat
  | [] => 0
  | t :: l => t.length + 1 + sizes l
theorem texts_sizes (l : List (List UInt8)) : (texts l).length ≤ 10 * sizes l := by
  induction l with
  | nil => simp [texts, sizes]
  | cons t l ih =>
    have := num_len t.length
    simp only [texts, text, sizes, List.length_append]
    omega
theorem sizes_len (l : List (List UInt8)) : l.length ≤ sizes l := by
  induction l with
  | nil => simp [sizes]
  | cons t l ih => simp only [sizes, List.length_cons]; omega
theorem sizes_le (l : List (List UInt8)) (t : List UInt8) (h : t ∈ l) : t.length ≤ sizes l := by
  induction l with
  | nil => cases h
  | cons x l ih =>
    simp only [sizes]
    rcases List.mem_cons.1 h with rfl | h
    · omega
    · have := ih h; omega
end Dg
namespace Go.Proofs.YtkkiedmcpibnaaaDoor
open Go.RowKit Go.ChangeShapes Go.WideShapes Go.ChangeAt

section
variable {H : Type} {enc : TypeId × Value → H} {W : World} {n : Nat} {t : TypeId} {v : Value} {y : DataW H × List MemPlace}

theorem bulk_strs (ss : List ByteArray) : Dg.sizes (ss.map fun s => s.data.toList) ≤ Rows.uptoBulkAll (strs (H := H) ss) := by
  induction ss with
  | nil => simp [Dg.sizes]
  | cons s ss ih =>
    simp only [List.map_cons, Dg.sizes, strs, Rows.uptoBulkAll, Rows.uptoBulk]
    simp only [strs] at ih
    omega

theorem trod_txs (ht : Tryd.prog.underlying t = some (.slice 9)) (h : DataW.trod enc Tryd.prog W 0 (fun _ => true) true n t [v] = some y) : ∃ ls, TxAt W v ls ∧ Dg.sizes ls ≤ Rows.uptoBulk y.1 := by
  rcases open_strings ht Tryd.underlying9 (by kernel_rfl) h with ⟨hv, rfl⟩ | ⟨a, len, cap, ss, hv, _, hl, _, hlen, rfl, hc, _⟩
  · cases hv
    exact ⟨[], .inl ⟨_, _, rfl, rfl⟩, by simp [Dg.sizes]⟩
  · cases hv
    simp only [if_true] at hlen
    have hle : ((ss.take len).map fun s => s.data.toList).length = len := by simp; omega
    refine ⟨(ss.take len).map fun s => s.data.toList, ?_, ?_⟩
    · by_cases h0 : ss.length = 0
      · obtain rfl : len = 0 := by omega
        exact .inl ⟨_, _, rfl, by simp⟩
      · have h1 := hc 0 (by omega)
        obtain ⟨b, off, spot⟩ := a
        have hspot : spot = none := by simpa [Addr.add] using World.cell?_spot h1
        subst hspot
        refine .inr ⟨b, off, cap, by rw [hle], fun i hi => ?_⟩
        have hi' : i < len := by rw [← hle]; exact hi
        have h2 := hc i (by omega)
        have ha : (⟨b, off, none⟩ : Addr).add i = ⟨b, off + i, none⟩ := by unfold Addr.add; split <;> simp_all
        rw [ha] at h2
        rw [h2]
        have hg : ss.getD i ByteArray.empty = ss[i]'(by omega) := by simp [List.getD, List.getElem?_eq_getElem (show i < ss.length by omega)]
        rw [hg]
        simp
    · simp only [Rows.uptoBulk]
      have := bulk_strs (H := H) (ss.take len)
      omega
end
end Go.Proofs.YtkkiedmcpibnaaaDoor
