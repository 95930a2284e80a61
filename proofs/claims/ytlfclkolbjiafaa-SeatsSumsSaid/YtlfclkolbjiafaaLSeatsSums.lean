/- SeatsSums: the walk. -/
import Derived.Test.YtlfclkolbjiafaaSeatIface
import Derived.Test.YtlfclkolbjiafaaOpen
import Derived.Laws.BitsAllLaws
namespace Go.Proofs.Ytlfclkolbjiafaa
open Go.RowKit Go.ChangeShapes Go.WideShapes Go.ChangeAt

set_option maxHeartbeats 4000000 in
theorem seatsSums_core (a b : Nat) (ha : a < 18446744073709551616) (hb : b < 18446744073709551616) (W : World) :
    Calls Try.prog 9 #[.int .u64 a, .int .u64 b] W fun e W' => e = .returned (.bool true) ∧ Below W.heap.size W W' := by
  have hor : bits .or .u64 (a : Int) (b : Int) = ((a ||| b : Nat) : Int) := u64_or_nat a b ha hb
  have hand0 : bits .and .u64 (a : Int) (b : Int) = ((a &&& b : Nat) : Int) := u64_and_nat a b ha hb
  have lo : a ||| b < 18446744073709551616 := Nat.or_lt_two_pow (n := 64) ha hb
  have la : a &&& b < 18446744073709551616 := Nat.lt_of_le_of_lt Nat.and_le_left ha
  have hs := Se.count_sum a b
  have l1 := Se.count_le a
  have l2 := Se.count_le b
  have l3 := Se.count_le (a ||| b)
  have l4 := Se.count_le (a &&& b)
  obtain ⟨o, eo⟩ : ∃ x, Se.count (a ||| b) = x := ⟨_, rfl⟩
  obtain ⟨d, ed⟩ : ∃ x, Se.count (a &&& b) = x := ⟨_, rfl⟩
  obtain ⟨x, ex⟩ : ∃ x, Se.count a = x := ⟨_, rfl⟩
  obtain ⟨y, ey⟩ : ∃ x, Se.count b = x := ⟨_, rfl⟩
  rw [eo, ed, ex, ey] at hs
  rw [ex] at l1
  rw [ey] at l2
  rw [eo] at l3
  rw [ed] at l4
  have CO := Lib.hid eo
  have CA := Lib.hid ed
  have C1 := Lib.hid ex
  have C2 := Lib.hid ey
  have hfin : ((o : Int) + (d : Int) == (x : Int) + (y : Int)) = true := by rw [beq_iff_eq]; omega
  clear eo ed ex ey hs
  go_enter Try.func9, Try.ntmps9
  go_wp2_with fail
  refine (seatShown_any _).mono ?_
  rintro e w1 ⟨rfl, h1⟩
  have g1 := h1
  go_wp2_with fail
  refine (s_count CO.out lo _).mono ?_
  rintro e w2 ⟨rfl, h2⟩
  have g2 := grow_trans g1 h2
  go_wp2_with fail
  refine (s_count CA.out la _).mono ?_
  rintro e w3 ⟨rfl, h3⟩
  have g3 := grow_trans g2 h3
  go_wp2_with fail
  refine (s_count C1.out ha _).mono ?_
  rintro e w4 ⟨rfl, h4⟩
  have g4 := grow_trans g3 h4
  go_wp2_with fail
  refine (s_count C2.out hb _).mono ?_
  rintro e w5 ⟨rfl, h5⟩
  have g5 := grow_trans g4 h5
  go_wp2_with fail
  go_ret
  exact ⟨rfl, g5⟩

theorem seatsSums_walk {H : Type} (enc : TypeId × Value → H) (W : World) (base : Nat) (v0 : Value) (v1 : Value) (d0 : DataW H) (d1 : DataW H) (p0 : List MemPlace) (p1 : List MemPlace)
    (h0 : DataW.Trod enc Try.prog W 0 (fun _ => true) true 25 v0 d0 p0) (o0 : Value.okWide Try.prog W .any base 25 v0)
    (h1 : DataW.Trod enc Try.prog W 0 (fun _ => true) true 25 v1 d1 p1) (o1 : Value.okWide Try.prog W .any base 25 v1)
    (hsz : (DataW.weightsEach Try.prog [25, 25] [d0, d1]).all (· ≤ reachBytes) = true) :
    Calls Try.prog 9 #[v0, v1] W fun e W' => e = .returned (.bool true) ∧ Below W.heap.size W W' := by
  obtain ⟨a, ha, rfl, rfl, rfl⟩ := open_u64 Try.underlying25 o0 h0
  obtain ⟨b, hb, rfl, rfl, rfl⟩ := open_u64 Try.underlying25 o1 h1
  clear hsz
  exact seatsSums_core a b ha hb W
end Go.Proofs.Ytlfclkolbjiafaa
