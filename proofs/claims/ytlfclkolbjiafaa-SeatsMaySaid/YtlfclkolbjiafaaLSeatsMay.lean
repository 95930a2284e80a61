/- SeatsMay: the walk. -/
import Derived.Test.YtlfclkolbjiafaaSeatIface
import Derived.Test.YtlfclkolbjiafaaOpen
namespace Go.Proofs.Ytlfclkolbjiafaa
open Go.RowKit Go.ChangeShapes Go.WideShapes Go.ChangeAt

set_option maxHeartbeats 2000000 in
theorem seatsMay_core (n : Int) (n1 : -9223372036854775808 ≤ n) (n2 : n ≤ 9223372036854775807) (W : World) :
    Calls Try.prog 3 #[.int .i64 n] W fun e W' => e = .returned (.bool true) ∧ Below W.heap.size W W' := by
  obtain ⟨x0, hx0⟩ : ∃ x, Se.may n = x := ⟨_, rfl⟩
  have HMAY := Lib.hid hx0
  clear hx0
  obtain ⟨x1, hx1⟩ : ∃ x, Se.faults n = x := ⟨_, rfl⟩
  have HFAULTS := Lib.hid hx1
  clear hx1
  obtain ⟨x2, hx2⟩ : ∃ x, Se.quorum n = x := ⟨_, rfl⟩
  have HQUORUM := Lib.hid hx2
  clear hx2
  obtain ⟨x3, hx3⟩ : ∃ x, Se.weak n = x := ⟨_, rfl⟩
  have HWEAK := Lib.hid hx3
  clear hx3
  go_enter Try.func3, Try.ntmps3
  go_wp2_with fail
  refine (seatShown_any _).mono ?_
  rintro e w1 ⟨rfl, h1⟩
  have g1 := h1
  go_wp2_with fail
  refine (s_may HMAY.out n1 n2 _).mono ?_
  rintro e w2 ⟨rfl, h2⟩
  have g2 := grow_trans g1 h2
  go_wp2_with fail
  refine (r_may HMAY.out n1 n2 _).mono ?_
  rintro e w3 ⟨rfl, h3⟩
  have g3 := grow_trans g2 h3
  go_wp2_with fail
  refine (s_faults HFAULTS.out n1 n2 _).mono ?_
  rintro e w4 ⟨rfl, h4⟩
  have g4 := grow_trans g3 h4
  go_wp2_with fail
  refine (r_faults HFAULTS.out n1 n2 _).mono ?_
  rintro e w5 ⟨rfl, h5⟩
  have g5 := grow_trans g4 h5
  go_wp2_with fail
  refine (s_quorum HQUORUM.out n1 n2 _).mono ?_
  rintro e w6 ⟨rfl, h6⟩
  have g6 := grow_trans g5 h6
  go_wp2_with fail
  refine (r_quorum HQUORUM.out n1 n2 _).mono ?_
  rintro e w7 ⟨rfl, h7⟩
  have g7 := grow_trans g6 h7
  go_wp2_with fail
  refine (s_weak HWEAK.out n1 n2 _).mono ?_
  rintro e w8 ⟨rfl, h8⟩
  have g8 := grow_trans g7 h8
  go_wp2_with fail
  refine (r_weak HWEAK.out n1 n2 _).mono ?_
  rintro e w9 ⟨rfl, h9⟩
  have g9 := grow_trans g8 h9
  go_wp2_with fail
  go_ret
  exact ⟨rfl, g9⟩

theorem seatsMay_walk {H : Type} (enc : TypeId × Value → H) (W : World) (base : Nat) (v0 : Value) (d0 : DataW H) (p0 : List MemPlace)
    (h0 : DataW.Trod enc Try.prog W 0 (fun _ => true) true 3 v0 d0 p0) (o0 : Value.okWide Try.prog W .any base 3 v0)
    (hsz : (DataW.weightsEach Try.prog [3] [d0]).all (· ≤ reachBytes) = true) :
    Calls Try.prog 3 #[v0] W fun e W' => e = .returned (.bool true) ∧ Below W.heap.size W W' := by
  obtain ⟨n, n1, n2, rfl, rfl, rfl⟩ := open_i64 Try.underlying3 o0 h0
  clear hsz
  exact seatsMay_core n n1 n2 W
end Go.Proofs.Ytlfclkolbjiafaa
