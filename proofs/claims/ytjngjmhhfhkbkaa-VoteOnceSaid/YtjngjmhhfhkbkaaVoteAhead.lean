/- The document's order of ballots. -/
import Derived.Test.YtjngjmhhfhkbkaaVoteRef
namespace Go.Proofs.Ytjngjmhhfhkbkaa
open Go.RowKit

set_option maxHeartbeats 1000000 in
theorem rvahead (a b : Vt.Bl) (w : World) :
    Calls Try.prog 24 #[balV a.1 a.2.1 (tx a.2.2), balV b.1 b.2.1 (tx b.2.2)] w fun e w' => e = .returned (.bool (Vt.ahead a b)) ∧ Below w.heap.size w w' := by
  obtain ⟨x, r, s⟩ := a
  obtain ⟨y, q, t⟩ := b
  simp only []
  have hg : Below w.heap.size w ((w.alloc (.cells #[.int .i64 x, .int .i64 r, tx s] 24)).alloc (.cells #[.int .i64 y, .int .i64 q, tx t] 24)) := ((Below.refl _ _).alloc (Nat.le_refl _) _).alloc (by simp) _
  have HG := Lib.hid hg
  clear hg
  by_cases h : r = q
  · subst h
    have e : Vt.ahead (x, r, s) (y, r, t) = decide (x < y) := by simp [Vt.ahead]
    rw [e]
    clear e
    go_enter Try.func24, Try.ntmps24
    go_wp2
    go_ret
    exact ⟨rfl, HG.out⟩
  · have e : Vt.ahead (x, r, s) (y, q, t) = decide (r < q) := by simp [Vt.ahead, h]
    have t1 : (r != q) = true := by rw [bne_iff_ne]; exact h
    rw [e]
    clear e h
    go_enter Try.func24, Try.ntmps24
    go_wp2
    go_ret
    exact ⟨rfl, HG.out⟩
end Go.Proofs.Ytjngjmhhfhkbkaa
