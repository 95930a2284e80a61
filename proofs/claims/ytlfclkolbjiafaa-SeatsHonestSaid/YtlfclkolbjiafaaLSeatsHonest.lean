/- SeatsHonest: the walk. -/
import Derived.Test.YtlfclkolbjiafaaSeatIface
import Derived.Test.YtlfclkolbjiafaaOpen
import Derived.Test.YtlfclkolbjiafaaSeatMath2
import Derived.Laws.BitsAllLaws
namespace Go.Proofs.Ytlfclkolbjiafaa
open Go.RowKit Go.ChangeShapes Go.WideShapes Go.ChangeAt

set_option linter.unusedVariables false
theorem s_count_int {x : Int} {v n : Nat} (e : x = v) (h : Se.count v = n) (hv : v < 18446744073709551616) (w : World) :
    Calls Try.prog 29 #[.int .u64 x] w fun e w' => e = .returned (.int .i64 n) ∧ Below w.heap.size w w' := by subst e; exact s_count h hv w
set_option maxHeartbeats 1000000 in
theorem hon_may (n : Int) (a v : Nat) (n1 : -9223372036854775808 ≤ n) (n2 : n ≤ 9223372036854775807) (ha : a < 18446744073709551616) (hv : v < 18446744073709551616) (M : Hid (Se.may n = false)) (W : World) :
    Calls Try.prog 7 #[.int .i64 n, .int .u64 v, .int .u64 a] W fun e W' => e = .returned (.bool true) ∧ Below W.heap.size W W' := by
  go_enter Try.func7, Try.ntmps7
  go_wp2_with fail
  refine (seatShown_any _).mono ?_
  rintro e w1 ⟨rfl, h1⟩
  have g1 := h1
  go_wp2_with fail
  refine (s_may M.out n1 n2 _).mono ?_
  rintro e w2 ⟨rfl, h2⟩
  have g2 := grow_trans g1 h2
  go_wp2_with fail
  go_ret
  exact ⟨rfl, g2⟩

set_option maxHeartbeats 1000000 in
theorem hon_wa (n : Int) (a v : Nat) (n1 : -9223372036854775808 ≤ n) (n2 : n ≤ 9223372036854775807) (ha : a < 18446744073709551616) (hv : v < 18446744073709551616) (M : Hid (Se.may n = true)) (WA : Hid (Se.within a n = false)) (W : World) :
    Calls Try.prog 7 #[.int .i64 n, .int .u64 v, .int .u64 a] W fun e W' => e = .returned (.bool true) ∧ Below W.heap.size W W' := by
  go_enter Try.func7, Try.ntmps7
  go_wp2_with fail
  refine (seatShown_any _).mono ?_
  rintro e w1 ⟨rfl, h1⟩
  have g1 := h1
  go_wp2_with fail
  refine (s_may M.out n1 n2 _).mono ?_
  rintro e w2 ⟨rfl, h2⟩
  have g2 := grow_trans g1 h2
  go_wp2_with fail
  refine (s_within WA.out ha n1 n2 _).mono ?_
  rintro e w3 ⟨rfl, h3⟩
  have g3 := grow_trans g2 h3
  go_wp2_with fail
  go_ret
  exact ⟨rfl, g3⟩

set_option maxHeartbeats 1000000 in
theorem hon_wb (n : Int) (a v : Nat) (n1 : -9223372036854775808 ≤ n) (n2 : n ≤ 9223372036854775807) (ha : a < 18446744073709551616) (hv : v < 18446744073709551616) (M : Hid (Se.may n = true)) (WA : Hid (Se.within a n = true)) (WB : Hid (Se.within v n = false)) (W : World) :
    Calls Try.prog 7 #[.int .i64 n, .int .u64 v, .int .u64 a] W fun e W' => e = .returned (.bool true) ∧ Below W.heap.size W W' := by
  go_enter Try.func7, Try.ntmps7
  go_wp2_with fail
  refine (seatShown_any _).mono ?_
  rintro e w1 ⟨rfl, h1⟩
  have g1 := h1
  go_wp2_with fail
  refine (s_may M.out n1 n2 _).mono ?_
  rintro e w2 ⟨rfl, h2⟩
  have g2 := grow_trans g1 h2
  go_wp2_with fail
  refine (s_within WA.out ha n1 n2 _).mono ?_
  rintro e w3 ⟨rfl, h3⟩
  have g3 := grow_trans g2 h3
  go_wp2_with fail
  refine (s_within WB.out hv n1 n2 _).mono ?_
  rintro e w4 ⟨rfl, h4⟩
  have g4 := grow_trans g3 h4
  go_wp2_with fail
  go_ret
  exact ⟨rfl, g4⟩

set_option maxHeartbeats 1000000 in
theorem hon_many (m a v : Nat) (n1 : -9223372036854775808 ≤ (m : Int)) (n2 : (m : Int) ≤ 9223372036854775807) (hm : m ≤ 64) (ha : a < 18446744073709551616) (hv : v < 18446744073709551616) (M : Hid (Se.may (m : Int) = true)) (WA : Hid (Se.within a (m : Int) = true)) (WB : Hid (Se.within v (m : Int) = true)) (cv : Nat) (fl : Int) (CV : Hid (Se.count v = cv)) (FL : Hid (Se.faults m = fl)) (c0 : decide (fl < (cv : Int)) = true) (W : World) :
    Calls Try.prog 7 #[.int .i64 m, .int .u64 v, .int .u64 a] W fun e W' => e = .returned (.bool true) ∧ Below W.heap.size W W' := by
  go_enter Try.func7, Try.ntmps7
  go_wp2_with fail
  refine (seatShown_any _).mono ?_
  rintro e w1 ⟨rfl, h1⟩
  have g1 := h1
  go_wp2_with fail
  refine (s_may M.out n1 n2 _).mono ?_
  rintro e w2 ⟨rfl, h2⟩
  have g2 := grow_trans g1 h2
  go_wp2_with fail
  refine (s_within WA.out ha n1 n2 _).mono ?_
  rintro e w3 ⟨rfl, h3⟩
  have g3 := grow_trans g2 h3
  go_wp2_with fail
  refine (s_within WB.out hv n1 n2 _).mono ?_
  rintro e w4 ⟨rfl, h4⟩
  have g4 := grow_trans g3 h4
  go_wp2_with fail
  refine (s_count CV.out hv _).mono ?_
  rintro e w5 ⟨rfl, h5⟩
  have g5 := grow_trans g4 h5
  go_wp2_with fail
  refine (s_faults FL.out n1 n2 _).mono ?_
  rintro e w6 ⟨rfl, h6⟩
  have g6 := grow_trans g5 h6
  go_wp2_with fail
  go_ret
  exact ⟨rfl, g6⟩

set_option maxHeartbeats 1000000 in
theorem hon_few (m a v : Nat) (n1 : -9223372036854775808 ≤ (m : Int)) (n2 : (m : Int) ≤ 9223372036854775807) (hm : m ≤ 64) (ha : a < 18446744073709551616) (hv : v < 18446744073709551616) (M : Hid (Se.may (m : Int) = true)) (WA : Hid (Se.within a (m : Int) = true)) (WB : Hid (Se.within v (m : Int) = true)) (cv ca c1 : Nat) (fl q : Int) (F : Nat) (CV : Hid (Se.count v = cv)) (FL : Hid (Se.faults m = fl)) (CA : Hid (Se.count a = ca)) (Q : Hid (Se.quorum m = q)) (HFm : Hid (Se.first m = F)) (hF : F < 18446744073709551616) (hvF : v ≤ F) (SUB : Hid ((F : Int) - (v : Int) = ((F - v : Nat) : Int))) (C1 : Hid (Se.count (F - v) = c1)) (l1 : F - v < 18446744073709551616) (c0 : decide (fl < (cv : Int)) = false) (t1 : decide ((c1 : Int) < q) = false) (t2 : decide ((ca : Int) < q) = true) (W : World) :
    Calls Try.prog 7 #[.int .i64 m, .int .u64 v, .int .u64 a] W fun e W' => e = .returned (.bool true) ∧ Below W.heap.size W W' := by
  go_enter Try.func7, Try.ntmps7
  go_wp2_with fail
  refine (seatShown_any _).mono ?_
  rintro e w1 ⟨rfl, h1⟩
  have g1 := h1
  go_wp2_with fail
  refine (s_may M.out n1 n2 _).mono ?_
  rintro e w2 ⟨rfl, h2⟩
  have g2 := grow_trans g1 h2
  go_wp2_with fail
  refine (s_within WA.out ha n1 n2 _).mono ?_
  rintro e w3 ⟨rfl, h3⟩
  have g3 := grow_trans g2 h3
  go_wp2_with fail
  refine (s_within WB.out hv n1 n2 _).mono ?_
  rintro e w4 ⟨rfl, h4⟩
  have g4 := grow_trans g3 h4
  go_wp2_with fail
  refine (s_count CV.out hv _).mono ?_
  rintro e w5 ⟨rfl, h5⟩
  have g5 := grow_trans g4 h5
  go_wp2_with fail
  refine (s_faults FL.out n1 n2 _).mono ?_
  rintro e w6 ⟨rfl, h6⟩
  have g6 := grow_trans g5 h6
  go_wp2_with fail
  go_loopw [8, 9] (fun o i wr => ∃ k : Nat, i = .int .i64 ((k : Int) + 1) ∧ o = .int .u64 (Se.first k) ∧ k ≤ m ∧ Below W.heap.size W wr) (fun _ i _ => m + 1 - (intOf i).toNat)
  case atStart => exact ⟨0, rfl, rfl, by omega, g6⟩
  case round =>
    obtain ⟨k, rfl, rfl, hk, hbel⟩ := hrel
    by_cases hlt : k < m
    · have hf := Se.first_lt k (by omega)
      have i1 : -9223372036854775808 ≤ (k : Int) + 1 := by omega
      have i2 : (k : Int) + 1 ≤ 9223372036854775807 := by omega
      have hp : Se.putR (Se.first k) ((k : Int) + 1) = (Se.first (k + 1), 0) := by rw [Se.putR, if_pos (by omega), show ((k : Int) + 1).toNat = k + 1 by omega]; rfl
      obtain ⟨F, hF⟩ : ∃ x, Se.first k = x := ⟨_, rfl⟩
      obtain ⟨G, hG⟩ : ∃ x, Se.first (k + 1) = x := ⟨_, rfl⟩
      rw [hF] at hp hf ⊢
      rw [hG] at hp
      have PP := Lib.hid hp
      have HG := Lib.hid hG
      have HLT := Lib.hid hlt
      have k64 : k < 64 := by omega
      have ht : decide ((k : Int) + 1 ≤ (m : Int)) = true := decide_eq_true (by omega)
      clear hp hF hG hlt hk
      go_wp2_with fail
      refine (s_put PP.out hf i1 i2 _).mono ?_
      rintro e v1 ⟨rfl, hb1⟩
      have hb2 := grow_trans hbel hb1
      go_wp2_with fail
      go_roundw
      case rel => exact ⟨k + 1, by go_num, by rw [HG.out], HLT.out, hb2⟩
      case measure => have := HLT.out; simp [intOf]; omega
    · obtain rfl : k = m := by omega
      have ht : decide ((k : Int) + 1 ≤ (k : Int)) = false := decide_eq_false (by omega)
      rw [HFm.out]
      go_wp2_with fail
      refine (s_count_int SUB.out C1.out l1 _).mono ?_
      rintro e w21 ⟨rfl, h21⟩
      have g21 := grow_trans hbel h21
      go_wp2_with fail
      refine (s_quorum Q.out n1 n2 _).mono ?_
      rintro e w22 ⟨rfl, h22⟩
      have g22 := grow_trans g21 h22
      go_wp2_with fail
      refine (s_count CA.out ha _).mono ?_
      rintro e w23 ⟨rfl, h23⟩
      have g23 := grow_trans g22 h23
      go_wp2_with fail
      refine (s_quorum Q.out n1 n2 _).mono ?_
      rintro e w24 ⟨rfl, h24⟩
      have g24 := grow_trans g23 h24
      go_wp2_with fail
      go_ret
      exact ⟨rfl, g24⟩

set_option maxHeartbeats 1000000 in
theorem hon_enough (m a v : Nat) (n1 : -9223372036854775808 ≤ (m : Int)) (n2 : (m : Int) ≤ 9223372036854775807) (hm : m ≤ 64) (ha : a < 18446744073709551616) (hv : v < 18446744073709551616) (M : Hid (Se.may (m : Int) = true)) (WA : Hid (Se.within a (m : Int) = true)) (WB : Hid (Se.within v (m : Int) = true)) (cv ca c1 : Nat) (fl q : Int) (F : Nat) (CV : Hid (Se.count v = cv)) (FL : Hid (Se.faults m = fl)) (CA : Hid (Se.count a = ca)) (Q : Hid (Se.quorum m = q)) (HFm : Hid (Se.first m = F)) (hF : F < 18446744073709551616) (hvF : v ≤ F) (SUB : Hid ((F : Int) - (v : Int) = ((F - v : Nat) : Int))) (C1 : Hid (Se.count (F - v) = c1)) (l1 : F - v < 18446744073709551616) (c0 : decide (fl < (cv : Int)) = false) (t1 : decide ((c1 : Int) < q) = false) (ab c2 : Nat) (k : Int) (hab : ab ≤ a) (HAND : Hid (bits .and .u64 (a : Int) (v : Int) = (ab : Int))) (SUB2 : Hid (IntKind.u64.wrap ((a : Int) - (ab : Int)) = ((a - ab : Nat) : Int))) (C2 : Hid (Se.count (a - ab) = c2)) (l2 : a - ab < 18446744073709551616) (K : Hid (Se.weak m = k)) (t2 : decide ((ca : Int) < q) = false) (t3 : decide (k ≤ (c2 : Int)) = true) (W : World) :
    Calls Try.prog 7 #[.int .i64 m, .int .u64 v, .int .u64 a] W fun e W' => e = .returned (.bool true) ∧ Below W.heap.size W W' := by
  go_enter Try.func7, Try.ntmps7
  go_wp2_with fail
  refine (seatShown_any _).mono ?_
  rintro e w1 ⟨rfl, h1⟩
  have g1 := h1
  go_wp2_with fail
  refine (s_may M.out n1 n2 _).mono ?_
  rintro e w2 ⟨rfl, h2⟩
  have g2 := grow_trans g1 h2
  go_wp2_with fail
  refine (s_within WA.out ha n1 n2 _).mono ?_
  rintro e w3 ⟨rfl, h3⟩
  have g3 := grow_trans g2 h3
  go_wp2_with fail
  refine (s_within WB.out hv n1 n2 _).mono ?_
  rintro e w4 ⟨rfl, h4⟩
  have g4 := grow_trans g3 h4
  go_wp2_with fail
  refine (s_count CV.out hv _).mono ?_
  rintro e w5 ⟨rfl, h5⟩
  have g5 := grow_trans g4 h5
  go_wp2_with fail
  refine (s_faults FL.out n1 n2 _).mono ?_
  rintro e w6 ⟨rfl, h6⟩
  have g6 := grow_trans g5 h6
  go_wp2_with fail
  go_loopw [8, 9] (fun o i wr => ∃ k : Nat, i = .int .i64 ((k : Int) + 1) ∧ o = .int .u64 (Se.first k) ∧ k ≤ m ∧ Below W.heap.size W wr) (fun _ i _ => m + 1 - (intOf i).toNat)
  case atStart => exact ⟨0, rfl, rfl, by omega, g6⟩
  case round =>
    obtain ⟨k, rfl, rfl, hk, hbel⟩ := hrel
    by_cases hlt : k < m
    · have hf := Se.first_lt k (by omega)
      have i1 : -9223372036854775808 ≤ (k : Int) + 1 := by omega
      have i2 : (k : Int) + 1 ≤ 9223372036854775807 := by omega
      have hp : Se.putR (Se.first k) ((k : Int) + 1) = (Se.first (k + 1), 0) := by rw [Se.putR, if_pos (by omega), show ((k : Int) + 1).toNat = k + 1 by omega]; rfl
      obtain ⟨F, hF⟩ : ∃ x, Se.first k = x := ⟨_, rfl⟩
      obtain ⟨G, hG⟩ : ∃ x, Se.first (k + 1) = x := ⟨_, rfl⟩
      rw [hF] at hp hf ⊢
      rw [hG] at hp
      have PP := Lib.hid hp
      have HG := Lib.hid hG
      have HLT := Lib.hid hlt
      have k64 : k < 64 := by omega
      have ht : decide ((k : Int) + 1 ≤ (m : Int)) = true := decide_eq_true (by omega)
      clear hp hF hG hlt hk
      go_wp2_with fail
      refine (s_put PP.out hf i1 i2 _).mono ?_
      rintro e v1 ⟨rfl, hb1⟩
      have hb2 := grow_trans hbel hb1
      go_wp2_with fail
      go_roundw
      case rel => exact ⟨k + 1, by go_num, by rw [HG.out], HLT.out, hb2⟩
      case measure => have := HLT.out; simp [intOf]; omega
    · obtain rfl : k = m := by omega
      have ht : decide ((k : Int) + 1 ≤ (k : Int)) = false := decide_eq_false (by omega)
      rw [HFm.out]
      go_wp2_with fail
      refine (s_count_int SUB.out C1.out l1 _).mono ?_
      rintro e w21 ⟨rfl, h21⟩
      have g21 := grow_trans hbel h21
      go_wp2_with fail
      refine (s_quorum Q.out n1 n2 _).mono ?_
      rintro e w22 ⟨rfl, h22⟩
      have g22 := grow_trans g21 h22
      go_wp2_with fail
      refine (s_count CA.out ha _).mono ?_
      rintro e w23 ⟨rfl, h23⟩
      have g23 := grow_trans g22 h23
      go_wp2_with fail
      refine (s_quorum Q.out n1 n2 _).mono ?_
      rintro e w24 ⟨rfl, h24⟩
      have g24 := grow_trans g23 h24
      go_wp2_with fail
      refine (s_count_int (by rw [HAND.out]; exact SUB2.out) C2.out l2 _).mono ?_
      rintro e w25 ⟨rfl, h25⟩
      have g25 := grow_trans g24 h25
      go_wp2_with fail
      refine (s_weak K.out n1 n2 _).mono ?_
      rintro e w26 ⟨rfl, h26⟩
      have g26 := grow_trans g25 h26
      go_wp2_with fail
      go_ret
      exact ⟨rfl, g26⟩

set_option maxHeartbeats 4000000 in
theorem seatsHonest_core (n : Int) (a v : Nat) (n1 : -9223372036854775808 ≤ n) (n2 : n ≤ 9223372036854775807) (ha : a < 18446744073709551616) (hv : v < 18446744073709551616) (W : World) :
    Calls Try.prog 7 #[.int .i64 n, .int .u64 v, .int .u64 a] W fun e W' => e = .returned (.bool true) ∧ Below W.heap.size W W' := by
  by_cases hm : Se.may n = true
  · by_cases hwa : Se.within a n = true
    · by_cases hwb : Se.within v n = true
      · obtain ⟨f, hn3, hf3, hq, hk, hn0, hn64⟩ := Se.may_form n hm
        obtain ⟨m, rfl⟩ := Int.eq_ofNat_of_zero_le hn0
        have hm64 : m ≤ 64 := by omega
        by_cases c0 : Se.faults m < (Se.count v : Int)
        · exact hon_many m a v n1 n2 hm64 ha hv hm hwa hwb _ _ rfl rfl (decide_eq_true c0) W
        · have c0' : (Se.count v : Int) ≤ Se.faults m := by omega
          have t1 := Se.honest_all m m v rfl hm hv hwb c0'
          have hvF : v ≤ Se.first m := by
            have := @Nat.and_le_left (Se.first m) v
            rw [Se.first_within v m hv hm64 hwb] at this
            exact this
          have hF := Se.first_lt m hm64
          by_cases c1 : (Se.count a : Int) < Se.quorum m
          · exact hon_few m a v n1 n2 hm64 ha hv hm hwa hwb _ _ _ _ _ _ rfl rfl rfl rfl rfl hF hvF (Int.ofNat_sub hvF).symm rfl (by omega) (decide_eq_false c0) (decide_eq_false (by omega)) (decide_eq_true c1) W
          · have t3 := Se.honest_weak m a v hm c0' (by omega)
            have hab : a &&& v ≤ a := Nat.and_le_left
            exact hon_enough m a v n1 n2 hm64 ha hv hm hwa hwb _ _ _ _ _ _ rfl rfl rfl rfl rfl hF hvF (Int.ofNat_sub hvF).symm rfl (by omega) (decide_eq_false c0) (decide_eq_false (by omega)) (a &&& v) _ _ hab (u64_and_nat a v ha hv) (by rw [IntWalk.u64_in _ ⟨by omega, by omega⟩]; exact (Int.ofNat_sub hab).symm) rfl (by omega) rfl (decide_eq_false c1) (decide_eq_true t3) W
      · exact hon_wb n a v n1 n2 ha hv hm hwa (Bool.eq_false_iff.mpr hwb) W
    · exact hon_wa n a v n1 n2 ha hv hm (Bool.eq_false_iff.mpr hwa) W
  · exact hon_may n a v n1 n2 ha hv (Bool.eq_false_iff.mpr hm) W

theorem seatsHonest_walk {H : Type} (enc : TypeId × Value → H) (W : World) (base : Nat) (v0 : Value) (v1 : Value) (v2 : Value) (d0 : DataW H) (d1 : DataW H) (d2 : DataW H) (p0 : List MemPlace) (p1 : List MemPlace) (p2 : List MemPlace)
    (h0 : DataW.Trod enc Try.prog W 0 (fun _ => true) true 3 v0 d0 p0) (o0 : Value.okWide Try.prog W .any base 3 v0)
    (h1 : DataW.Trod enc Try.prog W 0 (fun _ => true) true 25 v1 d1 p1) (o1 : Value.okWide Try.prog W .any base 25 v1)
    (h2 : DataW.Trod enc Try.prog W 0 (fun _ => true) true 25 v2 d2 p2) (o2 : Value.okWide Try.prog W .any base 25 v2)
    (hsz : (DataW.weightsEach Try.prog [3, 25, 25] [d0, d1, d2]).all (· ≤ reachBytes) = true) :
    Calls Try.prog 7 #[v0, v1, v2] W fun e W' => e = .returned (.bool true) ∧ Below W.heap.size W W' := by
  obtain ⟨n, n1, n2, rfl, rfl, rfl⟩ := open_i64 Try.underlying3 o0 h0
  obtain ⟨v, hv, rfl, rfl, rfl⟩ := open_u64 Try.underlying25 o1 h1
  obtain ⟨a, ha, rfl, rfl, rfl⟩ := open_u64 Try.underlying25 o2 h2
  clear hsz
  exact seatsHonest_core n a v n1 n2 ha hv W
end Go.Proofs.Ytlfclkolbjiafaa
