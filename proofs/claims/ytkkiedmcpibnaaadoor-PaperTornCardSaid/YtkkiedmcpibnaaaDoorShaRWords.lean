/- The document's constants. -/
import Derived.Test.YtkkiedmcpibnaaaDoorShaBlock
namespace Go.Proofs.YtkkiedmcpibnaaaDoor
open Go.RowKit

set_option maxRecDepth 100000 in
set_option maxHeartbeats 1000000 in
theorem rwords (w : World) : Calls Tryd.prog 48 #[] w fun e w' => e = .returned (.agg (Sh.words.map uv).toArray) ∧ Below w.heap.size w w' := by
  have hz := ARow.new w 80 (List.replicate 64 0)
  have HZ := Lib.hid hz
  have HG := Lib.hid (show Below w.heap.size w (w.alloc (.cells ((List.replicate 64 0).map uv).toArray 80)) from (Below.refl _ _).alloc (Nat.le_refl _) _)
  clear hz
  go_enter Tryd.func48, Tryd.ntmps48
  go_wp2_with (refine store_arow rfl 80 _ _ rfl w.heap.size (List.replicate 64 0) Sh.words rfl (by kernel_rfl) HZ.out 64 info64 (by simp) Sh.words_len ?_; intro w2 k1 k2 k3)
  refine bodyPost_ret (v := .agg (Sh.words.map uv).toArray) (results_cell_row rfl _ _ w.heap.size 80 _ (0, 0) _ rfl k1 Tryd.underlying80 rfl (by rw [info64]; simp [Sh.words_len])) rfl ⟨rfl, k2 _ _ (Nat.le_refl _) HG.out⟩

set_option maxHeartbeats 1000000 in
theorem rfirst (w : World) : Calls Tryd.prog 35 #[] w fun e w' => e = .returned (.agg (Sh.first.map uv).toArray) ∧ Below w.heap.size w w' := by
  go_enter Tryd.func35, Tryd.ntmps35
  go_wp2
  refine bodyPost_ret (v := .agg (Sh.first.map uv).toArray) (by simp [results, Tryd.results35, go_sem, Sh.first, uv]) rfl ⟨rfl, (Below.refl _ _).alloc (Nat.le_refl _) _⟩
end Go.Proofs.YtkkiedmcpibnaaaDoor
