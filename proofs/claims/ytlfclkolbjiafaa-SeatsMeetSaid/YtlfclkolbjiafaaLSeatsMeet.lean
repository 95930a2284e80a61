/- SeatsMeet: the walk. -/
import Derived.Test.YtlfclkolbjiafaaSeatIface
import Derived.Test.YtlfclkolbjiafaaOpen
import Derived.Test.YtlfclkolbjiafaaSeatMath2
import Derived.Laws.BitsAllLaws
namespace Go.Proofs.Ytlfclkolbjiafaa
open Go.RowKit Go.ChangeShapes Go.WideShapes Go.ChangeAt

set_option linter.unusedVariables false
set_option maxHeartbeats 1000000 in
theorem meet_may (n : Int) (a b : Nat) (n1 : -9223372036854775808 ≤ n) (n2 : n ≤ 9223372036854775807) (ha : a < 18446744073709551616) (hb : b < 18446744073709551616) (M : Hid (Se.may n = false)) (W : World) :
    Calls Try.prog 5 #[.int .i64 n, .int .u64 a, .int .u64 b] W fun e W' => e = .returned (.bool true) ∧ Below W.heap.size W W' := by
  go_enter Try.func5, Try.ntmps5
  go_wp2_with fail
  refine (seatShown_any _).mono ?_
  rintro e w1 ⟨rfl, h1⟩
  have g1 := h1
  go_wp2_with fail
  refine (s_may M.out n1 n2 _).mono ?_
  rintro e w2 ⟨rfl, h2⟩
  have g2 := grow_trans g1 h2
  go_wp2_with fail
  go_ret
  exact ⟨rfl, g2⟩

set_option maxHeartbeats 1000000 in
theorem meet_wa (n : Int) (a b : Nat) (n1 : -9223372036854775808 ≤ n) (n2 : n ≤ 9223372036854775807) (ha : a < 18446744073709551616) (hb : b < 18446744073709551616) (M : Hid (Se.may n = true)) (WA : Hid (Se.within a n = false)) (W : World) :
    Calls Try.prog 5 #[.int .i64 n, .int .u64 a, .int .u64 b] W fun e W' => e = .returned (.bool true) ∧ Below W.heap.size W W' := by
  go_enter Try.func5, Try.ntmps5
  go_wp2_with fail
  refine (seatShown_any _).mono ?_
  rintro e w1 ⟨rfl, h1⟩
  have g1 := h1
  go_wp2_with fail
  refine (s_may M.out n1 n2 _).mono ?_
  rintro e w2 ⟨rfl, h2⟩
  have g2 := grow_trans g1 h2
  go_wp2_with fail
  refine (s_within WA.out ha n1 n2 _).mono ?_
  rintro e w3 ⟨rfl, h3⟩
  have g3 := grow_trans g2 h3
  go_wp2_with fail
  go_ret
  exact ⟨rfl, g3⟩

set_option maxHeartbeats 1000000 in
theorem meet_wb (n : Int) (a b : Nat) (n1 : -9223372036854775808 ≤ n) (n2 : n ≤ 9223372036854775807) (ha : a < 18446744073709551616) (hb : b < 18446744073709551616) (M : Hid (Se.may n = true)) (WA : Hid (Se.within a n = true)) (WB : Hid (Se.within b n = false)) (W : World) :
    Calls Try.prog 5 #[.int .i64 n, .int .u64 a, .int .u64 b] W fun e W' => e = .returned (.bool true) ∧ Below W.heap.size W W' := by
  go_enter Try.func5, Try.ntmps5
  go_wp2_with fail
  refine (seatShown_any _).mono ?_
  rintro e w1 ⟨rfl, h1⟩
  have g1 := h1
  go_wp2_with fail
  refine (s_may M.out n1 n2 _).mono ?_
  rintro e w2 ⟨rfl, h2⟩
  have g2 := grow_trans g1 h2
  go_wp2_with fail
  refine (s_within WA.out ha n1 n2 _).mono ?_
  rintro e w3 ⟨rfl, h3⟩
  have g3 := grow_trans g2 h3
  go_wp2_with fail
  refine (s_within WB.out hb n1 n2 _).mono ?_
  rintro e w4 ⟨rfl, h4⟩
  have g4 := grow_trans g3 h4
  go_wp2_with fail
  go_ret
  exact ⟨rfl, g4⟩

set_option maxHeartbeats 1000000 in
theorem meet_few (n : Int) (a b : Nat) (n1 : -9223372036854775808 ≤ n) (n2 : n ≤ 9223372036854775807) (ha : a < 18446744073709551616) (hb : b < 18446744073709551616) (M : Hid (Se.may n = true)) (WA : Hid (Se.within a n = true)) (WB : Hid (Se.within b n = true)) (x y d ab : Nat) (q k : Int) (CA : Hid (Se.count a = x)) (CB : Hid (Se.count b = y)) (CD : Hid (Se.count ab = d)) (Q : Hid (Se.quorum n = q)) (K : Hid (Se.weak n = k)) (hand : Hid (bits .and .u64 (a : Int) (b : Int) = (ab : Int))) (hd : ab < 18446744073709551616) (lx : x ≤ 64) (ly : y ≤ 64) (ld : d ≤ 64) (q0 : 0 ≤ q) (q9 : q ≤ 64) (k0 : 0 ≤ k) (k9 : k ≤ 64) (c1 : decide ((x : Int) < q) = true) (W : World) :
    Calls Try.prog 5 #[.int .i64 n, .int .u64 a, .int .u64 b] W fun e W' => e = .returned (.bool true) ∧ Below W.heap.size W W' := by
  go_enter Try.func5, Try.ntmps5
  go_wp2_with fail
  refine (seatShown_any _).mono ?_
  rintro e w1 ⟨rfl, h1⟩
  have g1 := h1
  go_wp2_with fail
  refine (s_may M.out n1 n2 _).mono ?_
  rintro e w2 ⟨rfl, h2⟩
  have g2 := grow_trans g1 h2
  go_wp2_with fail
  refine (s_within WA.out ha n1 n2 _).mono ?_
  rintro e w3 ⟨rfl, h3⟩
  have g3 := grow_trans g2 h3
  go_wp2_with fail
  refine (s_within WB.out hb n1 n2 _).mono ?_
  rintro e w4 ⟨rfl, h4⟩
  have g4 := grow_trans g3 h4
  go_wp2_with fail
  refine (s_count CA.out ha _).mono ?_
  rintro e w5 ⟨rfl, h5⟩
  have g5 := grow_trans g4 h5
  go_wp2_with fail
  refine (s_quorum Q.out n1 n2 _).mono ?_
  rintro e w6 ⟨rfl, h6⟩
  have g6 := grow_trans g5 h6
  go_wp2_with fail
  go_ret
  exact ⟨rfl, g6⟩

set_option maxHeartbeats 1000000 in
theorem meet_small1 (n : Int) (a b : Nat) (n1 : -9223372036854775808 ≤ n) (n2 : n ≤ 9223372036854775807) (ha : a < 18446744073709551616) (hb : b < 18446744073709551616) (M : Hid (Se.may n = true)) (WA : Hid (Se.within a n = true)) (WB : Hid (Se.within b n = true)) (x y d ab : Nat) (q k : Int) (CA : Hid (Se.count a = x)) (CB : Hid (Se.count b = y)) (CD : Hid (Se.count ab = d)) (Q : Hid (Se.quorum n = q)) (K : Hid (Se.weak n = k)) (hand : Hid (bits .and .u64 (a : Int) (b : Int) = (ab : Int))) (hd : ab < 18446744073709551616) (lx : x ≤ 64) (ly : y ≤ 64) (ld : d ≤ 64) (q0 : 0 ≤ q) (q9 : q ≤ 64) (k0 : 0 ≤ k) (k9 : k ≤ 64) (c1 : decide ((x : Int) < q) = false) (c2 : decide (q ≤ (y : Int)) = false) (c3 : decide ((y : Int) < k) = true) (W : World) :
    Calls Try.prog 5 #[.int .i64 n, .int .u64 a, .int .u64 b] W fun e W' => e = .returned (.bool true) ∧ Below W.heap.size W W' := by
  go_enter Try.func5, Try.ntmps5
  go_wp2_with fail
  refine (seatShown_any _).mono ?_
  rintro e w1 ⟨rfl, h1⟩
  have g1 := h1
  go_wp2_with fail
  refine (s_may M.out n1 n2 _).mono ?_
  rintro e w2 ⟨rfl, h2⟩
  have g2 := grow_trans g1 h2
  go_wp2_with fail
  refine (s_within WA.out ha n1 n2 _).mono ?_
  rintro e w3 ⟨rfl, h3⟩
  have g3 := grow_trans g2 h3
  go_wp2_with fail
  refine (s_within WB.out hb n1 n2 _).mono ?_
  rintro e w4 ⟨rfl, h4⟩
  have g4 := grow_trans g3 h4
  go_wp2_with fail
  refine (s_count CA.out ha _).mono ?_
  rintro e w5 ⟨rfl, h5⟩
  have g5 := grow_trans g4 h5
  go_wp2_with fail
  refine (s_quorum Q.out n1 n2 _).mono ?_
  rintro e w6 ⟨rfl, h6⟩
  have g6 := grow_trans g5 h6
  go_wp2_with fail
  refine (s_count CB.out hb _).mono ?_
  rintro e w7 ⟨rfl, h7⟩
  have g7 := grow_trans g6 h7
  go_wp2_with fail
  refine (s_quorum Q.out n1 n2 _).mono ?_
  rintro e w8 ⟨rfl, h8⟩
  have g8 := grow_trans g7 h8
  go_wp2_with fail
  refine (s_count CB.out hb _).mono ?_
  rintro e w9 ⟨rfl, h9⟩
  have g9 := grow_trans g8 h9
  go_wp2_with fail
  refine (s_weak K.out n1 n2 _).mono ?_
  rintro e w10 ⟨rfl, h10⟩
  have g10 := grow_trans g9 h10
  go_wp2_with fail
  go_ret
  exact ⟨rfl, g10⟩

set_option maxHeartbeats 1000000 in
theorem meet_small2 (n : Int) (a b : Nat) (n1 : -9223372036854775808 ≤ n) (n2 : n ≤ 9223372036854775807) (ha : a < 18446744073709551616) (hb : b < 18446744073709551616) (M : Hid (Se.may n = true)) (WA : Hid (Se.within a n = true)) (WB : Hid (Se.within b n = true)) (x y d ab : Nat) (q k : Int) (CA : Hid (Se.count a = x)) (CB : Hid (Se.count b = y)) (CD : Hid (Se.count ab = d)) (Q : Hid (Se.quorum n = q)) (K : Hid (Se.weak n = k)) (hand : Hid (bits .and .u64 (a : Int) (b : Int) = (ab : Int))) (hd : ab < 18446744073709551616) (lx : x ≤ 64) (ly : y ≤ 64) (ld : d ≤ 64) (q0 : 0 ≤ q) (q9 : q ≤ 64) (k0 : 0 ≤ k) (k9 : k ≤ 64) (c1 : decide ((x : Int) < q) = false) (c2 : decide (q ≤ (y : Int)) = false) (c3 : decide ((y : Int) < k) = false) (hne : (bits .and .u64 (a : Int) (b : Int) != 0) = true) (W : World) :
    Calls Try.prog 5 #[.int .i64 n, .int .u64 a, .int .u64 b] W fun e W' => e = .returned (.bool true) ∧ Below W.heap.size W W' := by
  go_enter Try.func5, Try.ntmps5
  go_wp2_with fail
  refine (seatShown_any _).mono ?_
  rintro e w1 ⟨rfl, h1⟩
  have g1 := h1
  go_wp2_with fail
  refine (s_may M.out n1 n2 _).mono ?_
  rintro e w2 ⟨rfl, h2⟩
  have g2 := grow_trans g1 h2
  go_wp2_with fail
  refine (s_within WA.out ha n1 n2 _).mono ?_
  rintro e w3 ⟨rfl, h3⟩
  have g3 := grow_trans g2 h3
  go_wp2_with fail
  refine (s_within WB.out hb n1 n2 _).mono ?_
  rintro e w4 ⟨rfl, h4⟩
  have g4 := grow_trans g3 h4
  go_wp2_with fail
  refine (s_count CA.out ha _).mono ?_
  rintro e w5 ⟨rfl, h5⟩
  have g5 := grow_trans g4 h5
  go_wp2_with fail
  refine (s_quorum Q.out n1 n2 _).mono ?_
  rintro e w6 ⟨rfl, h6⟩
  have g6 := grow_trans g5 h6
  go_wp2_with fail
  refine (s_count CB.out hb _).mono ?_
  rintro e w7 ⟨rfl, h7⟩
  have g7 := grow_trans g6 h7
  go_wp2_with fail
  refine (s_quorum Q.out n1 n2 _).mono ?_
  rintro e w8 ⟨rfl, h8⟩
  have g8 := grow_trans g7 h8
  go_wp2_with fail
  refine (s_count CB.out hb _).mono ?_
  rintro e w9 ⟨rfl, h9⟩
  have g9 := grow_trans g8 h9
  go_wp2_with fail
  refine (s_weak K.out n1 n2 _).mono ?_
  rintro e w10 ⟨rfl, h10⟩
  have g10 := grow_trans g9 h10
  go_wp2_with fail
  go_ret
  exact ⟨rfl, g10⟩

set_option maxHeartbeats 1000000 in
theorem meet_big1 (n : Int) (a b : Nat) (n1 : -9223372036854775808 ≤ n) (n2 : n ≤ 9223372036854775807) (ha : a < 18446744073709551616) (hb : b < 18446744073709551616) (M : Hid (Se.may n = true)) (WA : Hid (Se.within a n = true)) (WB : Hid (Se.within b n = true)) (x y d ab : Nat) (q k : Int) (CA : Hid (Se.count a = x)) (CB : Hid (Se.count b = y)) (CD : Hid (Se.count ab = d)) (Q : Hid (Se.quorum n = q)) (K : Hid (Se.weak n = k)) (hand : Hid (bits .and .u64 (a : Int) (b : Int) = (ab : Int))) (hd : ab < 18446744073709551616) (lx : x ≤ 64) (ly : y ≤ 64) (ld : d ≤ 64) (q0 : 0 ≤ q) (q9 : q ≤ 64) (k0 : 0 ≤ k) (k9 : k ≤ 64) (c1 : decide ((x : Int) < q) = false) (c2 : decide (q ≤ (y : Int)) = true) (c4 : decide ((d : Int) < k) = false) (c3 : decide ((y : Int) < k) = true) (W : World) :
    Calls Try.prog 5 #[.int .i64 n, .int .u64 a, .int .u64 b] W fun e W' => e = .returned (.bool true) ∧ Below W.heap.size W W' := by
  go_enter Try.func5, Try.ntmps5
  go_wp2_with fail
  refine (seatShown_any _).mono ?_
  rintro e w1 ⟨rfl, h1⟩
  have g1 := h1
  go_wp2_with fail
  refine (s_may M.out n1 n2 _).mono ?_
  rintro e w2 ⟨rfl, h2⟩
  have g2 := grow_trans g1 h2
  go_wp2_with fail
  refine (s_within WA.out ha n1 n2 _).mono ?_
  rintro e w3 ⟨rfl, h3⟩
  have g3 := grow_trans g2 h3
  go_wp2_with fail
  refine (s_within WB.out hb n1 n2 _).mono ?_
  rintro e w4 ⟨rfl, h4⟩
  have g4 := grow_trans g3 h4
  go_wp2_with fail
  refine (s_count CA.out ha _).mono ?_
  rintro e w5 ⟨rfl, h5⟩
  have g5 := grow_trans g4 h5
  go_wp2_with fail
  refine (s_quorum Q.out n1 n2 _).mono ?_
  rintro e w6 ⟨rfl, h6⟩
  have g6 := grow_trans g5 h6
  go_wp2_with fail
  refine (s_count CB.out hb _).mono ?_
  rintro e w7 ⟨rfl, h7⟩
  have g7 := grow_trans g6 h7
  go_wp2_with fail
  refine (s_quorum Q.out n1 n2 _).mono ?_
  rintro e w8 ⟨rfl, h8⟩
  have g8 := grow_trans g7 h8
  go_wp2_with fail
  rw [hand.out]
  refine (s_count CD.out hd _).mono ?_
  rintro e w9 ⟨rfl, h9⟩
  have g9 := grow_trans g8 h9
  go_wp2_with fail
  refine (s_weak K.out n1 n2 _).mono ?_
  rintro e w10 ⟨rfl, h10⟩
  have g10 := grow_trans g9 h10
  go_wp2_with fail
  refine (s_count CB.out hb _).mono ?_
  rintro e w11 ⟨rfl, h11⟩
  have g11 := grow_trans g10 h11
  go_wp2_with fail
  refine (s_weak K.out n1 n2 _).mono ?_
  rintro e w12 ⟨rfl, h12⟩
  have g12 := grow_trans g11 h12
  go_wp2_with fail
  go_ret
  exact ⟨rfl, g12⟩

set_option maxHeartbeats 1000000 in
theorem meet_big2 (n : Int) (a b : Nat) (n1 : -9223372036854775808 ≤ n) (n2 : n ≤ 9223372036854775807) (ha : a < 18446744073709551616) (hb : b < 18446744073709551616) (M : Hid (Se.may n = true)) (WA : Hid (Se.within a n = true)) (WB : Hid (Se.within b n = true)) (x y d ab : Nat) (q k : Int) (CA : Hid (Se.count a = x)) (CB : Hid (Se.count b = y)) (CD : Hid (Se.count ab = d)) (Q : Hid (Se.quorum n = q)) (K : Hid (Se.weak n = k)) (hand : Hid (bits .and .u64 (a : Int) (b : Int) = (ab : Int))) (hd : ab < 18446744073709551616) (lx : x ≤ 64) (ly : y ≤ 64) (ld : d ≤ 64) (q0 : 0 ≤ q) (q9 : q ≤ 64) (k0 : 0 ≤ k) (k9 : k ≤ 64) (c1 : decide ((x : Int) < q) = false) (c2 : decide (q ≤ (y : Int)) = true) (c4 : decide ((d : Int) < k) = false) (c3 : decide ((y : Int) < k) = false) (hne : (bits .and .u64 (a : Int) (b : Int) != 0) = true) (W : World) :
    Calls Try.prog 5 #[.int .i64 n, .int .u64 a, .int .u64 b] W fun e W' => e = .returned (.bool true) ∧ Below W.heap.size W W' := by
  go_enter Try.func5, Try.ntmps5
  go_wp2_with fail
  refine (seatShown_any _).mono ?_
  rintro e w1 ⟨rfl, h1⟩
  have g1 := h1
  go_wp2_with fail
  refine (s_may M.out n1 n2 _).mono ?_
  rintro e w2 ⟨rfl, h2⟩
  have g2 := grow_trans g1 h2
  go_wp2_with fail
  refine (s_within WA.out ha n1 n2 _).mono ?_
  rintro e w3 ⟨rfl, h3⟩
  have g3 := grow_trans g2 h3
  go_wp2_with fail
  refine (s_within WB.out hb n1 n2 _).mono ?_
  rintro e w4 ⟨rfl, h4⟩
  have g4 := grow_trans g3 h4
  go_wp2_with fail
  refine (s_count CA.out ha _).mono ?_
  rintro e w5 ⟨rfl, h5⟩
  have g5 := grow_trans g4 h5
  go_wp2_with fail
  refine (s_quorum Q.out n1 n2 _).mono ?_
  rintro e w6 ⟨rfl, h6⟩
  have g6 := grow_trans g5 h6
  go_wp2_with fail
  refine (s_count CB.out hb _).mono ?_
  rintro e w7 ⟨rfl, h7⟩
  have g7 := grow_trans g6 h7
  go_wp2_with fail
  refine (s_quorum Q.out n1 n2 _).mono ?_
  rintro e w8 ⟨rfl, h8⟩
  have g8 := grow_trans g7 h8
  go_wp2_with fail
  rw [hand.out]
  refine (s_count CD.out hd _).mono ?_
  rintro e w9 ⟨rfl, h9⟩
  have g9 := grow_trans g8 h9
  go_wp2_with fail
  refine (s_weak K.out n1 n2 _).mono ?_
  rintro e w10 ⟨rfl, h10⟩
  have g10 := grow_trans g9 h10
  go_wp2_with fail
  refine (s_count CB.out hb _).mono ?_
  rintro e w11 ⟨rfl, h11⟩
  have g11 := grow_trans g10 h11
  go_wp2_with fail
  refine (s_weak K.out n1 n2 _).mono ?_
  rintro e w12 ⟨rfl, h12⟩
  have g12 := grow_trans g11 h12
  go_wp2_with fail
  go_ret
  exact ⟨rfl, g12⟩

set_option maxHeartbeats 4000000 in
theorem seatsMeet_core (n : Int) (a b : Nat) (n1 : -9223372036854775808 ≤ n) (n2 : n ≤ 9223372036854775807) (ha : a < 18446744073709551616) (hb : b < 18446744073709551616) (W : World) :
    Calls Try.prog 5 #[.int .i64 n, .int .u64 a, .int .u64 b] W fun e W' => e = .returned (.bool true) ∧ Below W.heap.size W W' := by
  have hand0 : bits .and .u64 (a : Int) (b : Int) = ((a &&& b : Nat) : Int) := u64_and_nat a b ha hb
  have hd : a &&& b < 18446744073709551616 := Nat.lt_of_le_of_lt Nat.and_le_left ha
  by_cases hm : Se.may n = true
  · by_cases hwa : Se.within a n = true
    · by_cases hwb : Se.within b n = true
      · have mq := Se.meet_quorum n a b hm hwa hwb
        have mw := Se.meet_weak n a b hm hwa hwb
        obtain ⟨f, hn3, hf3, hq, hk, _, hn64⟩ := Se.may_form n hm
        have lx := Se.count_le a
        have ly := Se.count_le b
        have ld := Se.count_le (a &&& b)
        have M := Lib.hid hm
        have WA := Lib.hid hwa
        have WB := Lib.hid hwb
        generalize hab : a &&& b = ab at *
        have hand := Lib.hid hand0
        generalize hx : Se.count a = x at *
        generalize hy : Se.count b = y at *
        generalize hdd : Se.count ab = d at *
        generalize hqq : Se.quorum n = q at *
        generalize hkk : Se.weak n = k at *
        have CA := Lib.hid hx
        have CB := Lib.hid hy
        have CD := Lib.hid hdd
        have Q := Lib.hid hqq
        have K := Lib.hid hkk
        have q0 : 0 ≤ q := by omega
        have q9 : q ≤ 64 := by omega
        have k0 : 0 ≤ k := by omega
        have k9 : k ≤ 64 := by omega
        clear hn3 hn64
        by_cases c1 : (x : Int) < q
        · exact meet_few n a b n1 n2 ha hb M WA WB x y d ab q k CA CB CD Q K hand hd lx ly ld q0 q9 k0 k9 (decide_eq_true c1) W
        · by_cases c2 : (y : Int) < q
          · by_cases c3 : (y : Int) < k
            · exact meet_small1 n a b n1 n2 ha hb M WA WB x y d ab q k CA CB CD Q K hand hd lx ly ld q0 q9 k0 k9 (decide_eq_false c1) (decide_eq_false (by omega)) (decide_eq_true c3) W
            · have := mw (by omega) (by omega)
              exact meet_small2 n a b n1 n2 ha hb M WA WB x y d ab q k CA CB CD Q K hand hd lx ly ld q0 q9 k0 k9 (decide_eq_false c1) (decide_eq_false (by omega)) (decide_eq_false c3) (by rw [hand0, bne_iff_ne]; omega) W
          · have c4 := mq (by omega) (by omega)
            by_cases c3 : (y : Int) < k
            · exact meet_big1 n a b n1 n2 ha hb M WA WB x y d ab q k CA CB CD Q K hand hd lx ly ld q0 q9 k0 k9 (decide_eq_false c1) (decide_eq_true (by omega)) (decide_eq_false (by omega)) (decide_eq_true c3) W
            · have := mw (by omega) (by omega)
              exact meet_big2 n a b n1 n2 ha hb M WA WB x y d ab q k CA CB CD Q K hand hd lx ly ld q0 q9 k0 k9 (decide_eq_false c1) (decide_eq_true (by omega)) (decide_eq_false (by omega)) (decide_eq_false c3) (by rw [hand0, bne_iff_ne]; omega) W
      · exact meet_wb n a b n1 n2 ha hb hm hwa (Bool.eq_false_iff.mpr hwb) W
    · exact meet_wa n a b n1 n2 ha hb hm (Bool.eq_false_iff.mpr hwa) W
  · exact meet_may n a b n1 n2 ha hb (Bool.eq_false_iff.mpr hm) W

theorem seatsMeet_walk {H : Type} (enc : TypeId × Value → H) (W : World) (base : Nat) (v0 : Value) (v1 : Value) (v2 : Value) (d0 : DataW H) (d1 : DataW H) (d2 : DataW H) (p0 : List MemPlace) (p1 : List MemPlace) (p2 : List MemPlace)
    (h0 : DataW.Trod enc Try.prog W 0 (fun _ => true) true 3 v0 d0 p0) (o0 : Value.okWide Try.prog W .any base 3 v0)
    (h1 : DataW.Trod enc Try.prog W 0 (fun _ => true) true 25 v1 d1 p1) (o1 : Value.okWide Try.prog W .any base 25 v1)
    (h2 : DataW.Trod enc Try.prog W 0 (fun _ => true) true 25 v2 d2 p2) (o2 : Value.okWide Try.prog W .any base 25 v2)
    (hsz : (DataW.weightsEach Try.prog [3, 25, 25] [d0, d1, d2]).all (· ≤ reachBytes) = true) :
    Calls Try.prog 5 #[v0, v1, v2] W fun e W' => e = .returned (.bool true) ∧ Below W.heap.size W W' := by
  obtain ⟨n, n1, n2, rfl, rfl, rfl⟩ := open_i64 Try.underlying3 o0 h0
  obtain ⟨a, ha, rfl, rfl, rfl⟩ := open_u64 Try.underlying25 o1 h1
  obtain ⟨b, hb, rfl, rfl, rfl⟩ := open_u64 Try.underlying25 o2 h2
  clear hsz
  exact seatsMeet_core n a b n1 n2 ha hb W
end Go.Proofs.Ytlfclkolbjiafaa
