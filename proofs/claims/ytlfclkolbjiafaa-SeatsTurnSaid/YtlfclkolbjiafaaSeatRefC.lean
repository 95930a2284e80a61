/- The contract of the document's answer of layer 5: Count. -/
import Derived.Test.YtlfclkolbjiafaaSeatRef
namespace Go.Proofs.Ytlfclkolbjiafaa
open Go.RowKit

set_option maxHeartbeats 2000000 in
theorem rcount_any (v : Nat) (hv : v < 18446744073709551616) (w : World) :
    Calls Try.prog 30 #[.int .u64 v] w fun e w' => e = .returned (.int .i64 (Se.count v)) ∧ Below w.heap.size w w' := by
  go_enter Try.func30, Try.ntmps30
  go_wp2_with fail
  refine (rlist_any v hv _).mono ?_
  rintro e w1 ⟨s, rfl, hs, hb⟩
  obtain ⟨a, cap, rfl⟩ := hs.len (n := (Se.list v).length) (ids_len _) (by omega)
  clear hs
  go_wp2
  go_ret
  exact ⟨rfl, hb⟩
end Go.Proofs.Ytlfclkolbjiafaa
