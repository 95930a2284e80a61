/- The contract of Text. -/
import Derived.Test.YtkkiedmcpibnaaaDoorDigNum
namespace Go.Proofs.YtkkiedmcpibnaaaDoor
open Go.RowKit
attribute [local go_sem] ByteArray.mk_append_mk

set_option maxHeartbeats 1000000 in
theorem text_any (l : List UInt8) (hl : l.length ≤ 140737488351232) (w : World) :
    Calls Tryd.prog 26 #[tx l] w fun e w' => e = .returned (tx (Dg.num l.length ++ l)) ∧ Below w.heap.size w w' := by
  have hn := Dg.num_len l.length
  go_enter Tryd.func26, Tryd.ntmps26
  go_wp2_with (go_at_call 33; refine (num_any _ (by omega) _).mono ?_; rintro e w' ⟨rfl, hb⟩)
  go_ret
  exact ⟨rfl, hb⟩

/-- 'string([]byte{x})'. -/
theorem conv_one (w : World) (y : UInt8) (t : TypeId) (c : Nat) (n : Int) (hn : n = (y.toNat : Int)) :
    (convert 67 9 (.slice (some ⟨w.heap.size, 0, none⟩) 1 c)).run Tryd.prog (w.alloc (.cells #[.int .u8 n] t)) = .ok (tx [y]) (w.alloc (.cells #[.int .u8 n] t)) := by
  subst hn
  exact conv_tail w [y] 0 (by simp) t 1 c rfl
end Go.Proofs.YtkkiedmcpibnaaaDoor
