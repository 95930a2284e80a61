/- SeatsInside: the walk. -/
import Derived.Test.YtlfclkolbjiafaaSeatIface
import Derived.Test.YtlfclkolbjiafaaOpen
import Derived.Test.YtlfclkolbjiafaaSeatMath2
namespace Go.Proofs.Ytlfclkolbjiafaa
namespace Se
/-- The flag behind the first k rounds. -/
def inTo (v : Nat) (n : Int) : Nat → Bool
  | 0 => true
  | k + 1 => inTo v n k && (!(v.testBit k) || decide ((k : Int) + 1 ≤ n))
end Se
open Go.RowKit Go.ChangeShapes Go.WideShapes Go.ChangeAt

set_option linter.unusedVariables false
theorem inTo_iff (v : Nat) (n : Int) (k : Nat) : Se.inTo v n k = true ↔ ∀ i, i < k → v.testBit i = true → (i : Int) + 1 ≤ n := by
  induction k with
  | zero => simp [Se.inTo]
  | succ k ih =>
    rw [Se.inTo, Bool.and_eq_true, ih, Bool.or_eq_true, decide_eq_true_iff, Bool.not_eq_true']
    constructor
    · rintro ⟨h, h2⟩ i hi hb
      rcases Nat.lt_succ_iff_lt_or_eq.mp hi with h3 | rfl
      · exact h i h3 hb
      · rcases h2 with h4 | h4
        · rw [hb] at h4; cases h4
        · exact h4
    · intro h
      refine ⟨fun i hi hb => h i (by omega) hb, ?_⟩
      cases hb : v.testBit k
      · exact .inl rfl
      · exact .inr (h k (by omega) hb)
theorem inTo_within (v : Nat) (n : Int) (h : 0 ≤ n ∧ n ≤ 64) : Se.within v n = Se.inTo v n 64 := by
  rw [Bool.eq_iff_iff, Se.within_iff v n h, inTo_iff]
  constructor
  · intro hl i hi hb
    have := hl (i + 1) ((Se.list_mem v (i + 1)).mpr ⟨by omega, by omega, by rw [Nat.add_sub_cancel]; exact hb⟩)
    omega
  · intro hl i hi
    obtain ⟨h1, h2, h3⟩ := (Se.list_mem v i).mp hi
    have := hl (i - 1) (by omega) h3
    omega
set_option maxHeartbeats 1000000 in
theorem ins_low (v : Nat) (n : Int) (hv : v < 18446744073709551616) (n1 : -9223372036854775808 ≤ n) (n2 : n ≤ 9223372036854775807) (WI : Hid (Se.within v n = false)) (c : n < 0) (W : World) :
    Calls Try.prog 10 #[.int .u64 v, .int .i64 n] W fun e W' => e = .returned (.bool true) ∧ Below W.heap.size W W' := by
  go_enter Try.func10, Try.ntmps10
  go_wp2_with fail
  refine (seatShown_any _).mono ?_
  rintro e w1 ⟨rfl, h1⟩
  have g1 := h1
  go_wp2_with fail
  refine (s_within WI.out hv n1 n2 _).mono ?_
  rintro e w2 ⟨rfl, h2⟩
  have g2 := grow_trans g1 h2
  go_wp2_with fail
  go_ret
  exact ⟨rfl, g2⟩

set_option maxHeartbeats 1000000 in
theorem ins_high (v : Nat) (n : Int) (hv : v < 18446744073709551616) (n1 : -9223372036854775808 ≤ n) (n2 : n ≤ 9223372036854775807) (WI : Hid (Se.within v n = false)) (c : 64 < n) (W : World) :
    Calls Try.prog 10 #[.int .u64 v, .int .i64 n] W fun e W' => e = .returned (.bool true) ∧ Below W.heap.size W W' := by
  go_enter Try.func10, Try.ntmps10
  go_wp2_with fail
  refine (seatShown_any _).mono ?_
  rintro e w1 ⟨rfl, h1⟩
  have g1 := h1
  go_wp2_with fail
  refine (s_within WI.out hv n1 n2 _).mono ?_
  rintro e w2 ⟨rfl, h2⟩
  have g2 := grow_trans g1 h2
  go_wp2_with fail
  go_ret
  exact ⟨rfl, g2⟩

set_option maxHeartbeats 1000000 in
theorem ins_mid (v : Nat) (n : Int) (hv : v < 18446744073709551616) (n1 : -9223372036854775808 ≤ n) (n2 : n ≤ 9223372036854775807) (I : Bool) (WI : Hid (Se.within v n = I)) (IN : Hid (Se.inTo v n 64 = I)) (c0 : 0 ≤ n) (c9 : n ≤ 64) (W : World) :
    Calls Try.prog 10 #[.int .u64 v, .int .i64 n] W fun e W' => e = .returned (.bool true) ∧ Below W.heap.size W W' := by
  go_enter Try.func10, Try.ntmps10
  go_wp2_with fail
  refine (seatShown_any _).mono ?_
  rintro e w1 ⟨rfl, h1⟩
  have g1 := h1
  go_wp2_with fail
  go_loopw [6, 7] (fun o i wr => ∃ k : Nat, i = .int .i64 ((k : Int) + 1) ∧ o = .bool (Se.inTo v n k) ∧ k ≤ 64 ∧ Below W.heap.size W wr) (fun _ i _ => 65 - (intOf i).toNat)
  case atStart => exact ⟨0, rfl, rfl, by omega, g1⟩
  case round =>
    obtain ⟨k, rfl, rfl, hk, hbel⟩ := hrel
    by_cases hlt : k < 64
    · have i1 : -9223372036854775808 ≤ (k : Int) + 1 := by omega
      have i2 : (k : Int) + 1 ≤ 9223372036854775807 := by omega
      have hhas : Se.has v ((k : Int) + 1) = v.testBit k := by
        have := Se.has_nat v (k + 1) (by omega) (by omega)
        rw [Nat.add_sub_cancel] at this
        exact this
      have HLT := Lib.hid hlt
      have k64 : k < 64 := hlt
      have ht : decide ((k : Int) + 1 ≤ 64) = true := decide_eq_true (by omega)
      clear hlt hk
      cases hI : Se.inTo v n k with
      | false =>
        have hn : Se.inTo v n (k + 1) = false := by rw [Se.inTo, hI]; rfl
        have HN := Lib.hid hn
        clear hn hI hhas
        go_wp2_with fail
        go_roundw
        case rel => exact ⟨k + 1, by go_num, by rw [HN.out], HLT.out, hbel⟩
        case measure => have := HLT.out; simp [intOf]; omega
      | true =>
        cases hbit : v.testBit k with
        | false =>
          rw [hbit] at hhas
          have HB := Lib.hid hhas
          have hn : Se.inTo v n (k + 1) = true := by rw [Se.inTo, hI, hbit]; rfl
          have HN := Lib.hid hn
          clear hn hI hhas hbit
          go_wp2_with fail
          refine (s_has HB.out hv i1 i2 _).mono ?_
          rintro e v1 ⟨rfl, hb1⟩
          have hb2 := grow_trans hbel hb1
          go_wp2_with fail
          go_roundw
          case rel => exact ⟨k + 1, by go_num, by rw [HN.out], HLT.out, hb2⟩
          case measure => have := HLT.out; simp [intOf]; omega
        | true =>
          rw [hbit] at hhas
          have HB := Lib.hid hhas
          by_cases hle : (k : Int) + 1 ≤ n
          · have htn : decide ((k : Int) + 1 ≤ n) = true := decide_eq_true hle
            have hn : Se.inTo v n (k + 1) = true := by rw [Se.inTo, hI, hbit, htn]; rfl
            have HN := Lib.hid hn
            clear hn hI hhas hbit hle
            go_wp2_with fail
            refine (s_has HB.out hv i1 i2 _).mono ?_
            rintro e v1 ⟨rfl, hb1⟩
            have hb2 := grow_trans hbel hb1
            go_wp2_with fail
            go_roundw
            case rel => exact ⟨k + 1, by go_num, by rw [HN.out], HLT.out, hb2⟩
            case measure => have := HLT.out; simp [intOf]; omega
          · have htn : decide ((k : Int) + 1 ≤ n) = false := decide_eq_false hle
            have hn : Se.inTo v n (k + 1) = false := by rw [Se.inTo, hI, hbit, htn]; rfl
            have HN := Lib.hid hn
            clear hn hI hhas hbit hle
            go_wp2_with fail
            refine (s_has HB.out hv i1 i2 _).mono ?_
            rintro e v1 ⟨rfl, hb1⟩
            have hb2 := grow_trans hbel hb1
            go_wp2_with fail
            go_roundw
            case rel => exact ⟨k + 1, by go_num, by rw [HN.out], HLT.out, hb2⟩
            case measure => have := HLT.out; simp [intOf]; omega
    · obtain rfl : k = 64 := by omega
      rw [IN.out]
      cases I with
      | false =>
        go_wp2_with fail
        refine (s_within WI.out hv n1 n2 _).mono ?_
        rintro e w21 ⟨rfl, h21⟩
        have g21 := grow_trans hbel h21
        go_wp2_with fail
        go_ret
        exact ⟨rfl, g21⟩
      | true =>
        go_wp2_with fail
        refine (s_within WI.out hv n1 n2 _).mono ?_
        rintro e w21 ⟨rfl, h21⟩
        have g21 := grow_trans hbel h21
        go_wp2_with fail
        go_ret
        exact ⟨rfl, g21⟩

set_option maxHeartbeats 4000000 in
theorem seatsInside_core (v : Nat) (n : Int) (hv : v < 18446744073709551616) (n1 : -9223372036854775808 ≤ n) (n2 : n ≤ 9223372036854775807) (W : World) :
    Calls Try.prog 10 #[.int .u64 v, .int .i64 n] W fun e W' => e = .returned (.bool true) ∧ Below W.heap.size W W' := by
  by_cases c0 : n < 0
  · exact ins_low v n hv n1 n2 (by rw [Se.within, decide_eq_false (by omega)]; rfl) c0 W
  · by_cases c9 : 64 < n
    · exact ins_high v n hv n1 n2 (by rw [Se.within, decide_eq_false (by omega)]; rfl) c9 W
    · exact ins_mid v n hv n1 n2 _ rfl (inTo_within v n ⟨by omega, by omega⟩).symm (by omega) (by omega) W

theorem seatsInside_walk {H : Type} (enc : TypeId × Value → H) (W : World) (base : Nat) (v0 : Value) (v1 : Value) (d0 : DataW H) (d1 : DataW H) (p0 : List MemPlace) (p1 : List MemPlace)
    (h0 : DataW.Trod enc Try.prog W 0 (fun _ => true) true 25 v0 d0 p0) (o0 : Value.okWide Try.prog W .any base 25 v0)
    (h1 : DataW.Trod enc Try.prog W 0 (fun _ => true) true 3 v1 d1 p1) (o1 : Value.okWide Try.prog W .any base 3 v1)
    (hsz : (DataW.weightsEach Try.prog [25, 3] [d0, d1]).all (· ≤ reachBytes) = true) :
    Calls Try.prog 10 #[v0, v1] W fun e W' => e = .returned (.bool true) ∧ Below W.heap.size W W' := by
  obtain ⟨v, hv, rfl, rfl, rfl⟩ := open_u64 Try.underlying25 o0 h0
  obtain ⟨n, n1, n2, rfl, rfl, rfl⟩ := open_i64 Try.underlying3 o1 h1
  clear hsz
  exact seatsInside_core v n hv n1 n2 W
end Go.Proofs.Ytlfclkolbjiafaa
