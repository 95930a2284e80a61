/- Package seats as it landed: the contracts of its small functions, as plain functions. -/
import Derived.Test.YtlfclkolbjiafaaSeatRef4
import Derived.Test.YtlfclkolbjiafaaSeatMath2
namespace Go.Proofs.Ytlfclkolbjiafaa
open Go.RowKit

theorem pis_in (id : Int) (h1 : 1 ≤ id) (h2 : id ≤ 64) (w : World) :
    Calls Try.prog 33 #[.int .i64 id] w fun e w' => e = .returned (.bool true) ∧ w' = w := by
  have t1 : decide (1 ≤ id) = true := by simpa using h1
  have t2 : decide (id ≤ 64) = true := by simpa using h2
  clear h1 h2
  go_enter Try.func33, Try.ntmps33
  go_wp2
  go_ret
  exact ⟨rfl, rfl⟩
theorem pis_out (id : Int) (h : id < 1 ∨ 64 < id) (w : World) :
    Calls Try.prog 33 #[.int .i64 id] w fun e w' => e = .returned (.bool false) ∧ w' = w := by
  by_cases h1 : 1 ≤ id
  · have t1 : decide (1 ≤ id) = true := by simpa using h1
    have t2 : decide (id ≤ 64) = false := by simp; omega
    clear h1 h
    go_enter Try.func33, Try.ntmps33
    go_wp2
    go_ret
    exact ⟨rfl, rfl⟩
  · have t1 : decide (1 ≤ id) = false := by simpa using h1
    clear h1 h
    go_enter Try.func33, Try.ntmps33
    go_wp2
    go_ret
    exact ⟨rfl, rfl⟩

theorem wrap_pow (k : Nat) (h : k ≤ 63) : IntKind.u64.wrap ((2 : Int) ^ k) = ((2 ^ k : Nat) : Int) := by
  have h2 : (2 : Nat) ^ k ≤ 2 ^ 63 := Nat.pow_le_pow_right (by omega) h
  have e : ((2 ^ k : Nat) : Int) = (2 : Int) ^ k := by simp
  rw [← e]
  generalize 2 ^ k = x at h2
  exact IntWalk.u64_in _ ⟨by omega, by omega⟩
theorem pmask_in (k : Nat) (h : k ≤ 63) (w : World) :
    Calls Try.prog 34 #[.int .i64 (k + 1 : Nat)] w fun e w' => e = .returned (.int .u64 (2 ^ k : Nat)) ∧ w' = w := by
  go_enter Try.func34, Try.ntmps34
  go_wp2
  go_ret
  exact ⟨by rw [wrap_pow k h]; rfl, rfl⟩

theorem and_bit (v k : Nat) : v &&& 2 ^ k = if v.testBit k then 2 ^ k else 0 := by
  apply Nat.eq_of_testBit_eq
  intro i
  rw [Nat.testBit_and, Nat.testBit_two_pow]
  by_cases e : k = i
  · subst e
    cases h : v.testBit k with
    | true => simp
    | false => simp
  · cases h : v.testBit k with
    | true => simp [e]
    | false => simp [e]
theorem bits_and_pow (v k : Nat) (hv : v < 18446744073709551616) (hk : k ≤ 63) : bits .and .u64 (v : Int) ((2 ^ k : Nat) : Int) = if v.testBit k then ((2 ^ k : Nat) : Int) else 0 := by
  have h2 : (2 : Nat) ^ k ≤ 2 ^ 63 := Nat.pow_le_pow_right (by omega) hk
  have h3 : 2 ^ k < 18446744073709551616 := by generalize 2 ^ k = x at *; omega
  rw [u64_and_nat v _ hv h3, and_bit]
  cases h : v.testBit k <;> simp

theorem phas_in (v k : Nat) (hv : v < 18446744073709551616) (hk : k ≤ 63) (w : World) :
    Calls Try.prog 27 #[.int .u64 v, .int .i64 (k + 1 : Nat)] w fun e w' => e = .returned (.bool (v.testBit k)) ∧ w' = w := by
  have hand := bits_and_pow v k hv hk
  have hp : (0 : Nat) < 2 ^ k := Nat.two_pow_pos k
  have hm := fun W => pmask_in k hk W
  have hi := fun W => pis_in ((k + 1 : Nat) : Int) (by omega) (by omega) W
  generalize 2 ^ k = p at *
  cases hb : v.testBit k with
  | true =>
    rw [hb, if_pos rfl] at hand
    have HA := Lib.hid hand
    have HP := Lib.hid hp
    clear hand hb hp
    go_enter Try.func27, Try.ntmps27
    go_wp2_with fail
    refine (hi _).mono ?_
    rintro e w1 ⟨rfl, rfl⟩
    go_wp2_with fail
    refine (hm _).mono ?_
    rintro e w1 ⟨rfl, rfl⟩
    go_wp2
    go_ret
    exact ⟨by rw [HA.out]; have := HP.out; simp; omega, rfl⟩
  | false =>
    rw [hb, if_neg (by decide)] at hand
    have HA := Lib.hid hand
    clear hand hb hp
    go_enter Try.func27, Try.ntmps27
    go_wp2_with fail
    refine (hi _).mono ?_
    rintro e w1 ⟨rfl, rfl⟩
    go_wp2_with fail
    refine (hm _).mono ?_
    rintro e w1 ⟨rfl, rfl⟩
    go_wp2
    go_ret
    exact ⟨by rw [HA.out]; simp, rfl⟩
theorem phas_out (v : Nat) (id : Int) (h : id < 1 ∨ 64 < id) (w : World) :
    Calls Try.prog 27 #[.int .u64 v, .int .i64 id] w fun e w' => e = .returned (.bool false) ∧ w' = w := by
  go_enter Try.func27, Try.ntmps27
  go_wp2_with fail
  refine (pis_out id h _).mono ?_
  rintro e w1 ⟨rfl, rfl⟩
  clear h
  go_wp2
  go_ret
  exact ⟨rfl, rfl⟩

theorem phas_any (v : Nat) (id : Int) (hv : v < 18446744073709551616) (w : World) :
    Calls Try.prog 27 #[.int .u64 v, .int .i64 id] w fun e w' => e = .returned (.bool (Se.has v id)) ∧ w' = w := by
  by_cases h : 1 ≤ id ∧ id ≤ 64
  · obtain ⟨k, rfl⟩ : ∃ k : Nat, id = ((k + 1 : Nat) : Int) := ⟨id.toNat - 1, by omega⟩
    have e : Se.has v ((k + 1 : Nat) : Int) = v.testBit k := by
      rw [Se.has_nat v (k + 1) (by omega) (by omega)]; rfl
    rw [e]
    exact phas_in v k hv (by omega) w
  · rw [Se.has_out v id (by omega)]
    exact phas_out v id (by omega) w

theorem pput_in (v k : Nat) (hv : v < 18446744073709551616) (hk : k ≤ 63) (w : World) :
    Calls Try.prog 20 #[.int .u64 v, .int .i64 (k + 1 : Nat)] w fun e w' => e = .returned (.tuple #[.int .u64 (v ||| 2 ^ k : Nat), .int .i64 0]) ∧ w' = w := by
  have h2 : (2 : Nat) ^ k ≤ 2 ^ 63 := Nat.pow_le_pow_right (by omega) hk
  have hm := fun W => pmask_in k hk W
  have hi := fun W => pis_in ((k + 1 : Nat) : Int) (by omega) (by omega) W
  have hp : 2 ^ k < 18446744073709551616 := by generalize 2 ^ k = x at *; omega
  clear h2
  generalize 2 ^ k = p at *
  have hor := u64_or_nat v p hv hp
  have HO := Lib.hid hor
  clear hor
  go_enter Try.func20, Try.ntmps20
  go_wp2_with fail
  refine (hi _).mono ?_
  rintro e w1 ⟨rfl, rfl⟩
  go_wp2_with fail
  refine (hm _).mono ?_
  rintro e w1 ⟨rfl, rfl⟩
  go_wp2
  go_ret2
  exact ⟨by rw [HO.out]; rfl, rfl⟩
theorem pput_out (v : Nat) (id : Int) (h : id < 1 ∨ 64 < id) (w : World) :
    Calls Try.prog 20 #[.int .u64 v, .int .i64 id] w fun e w' => e = .returned (.tuple #[.int .u64 0, .int .i64 1]) ∧ w' = w := by
  go_enter Try.func20, Try.ntmps20
  go_wp2_with fail
  refine (pis_out id h _).mono ?_
  rintro e w1 ⟨rfl, rfl⟩
  clear h
  go_wp2
  go_ret2
  exact ⟨rfl, rfl⟩
theorem pput_any (v : Nat) (id : Int) (hv : v < 18446744073709551616) (w : World) :
    Calls Try.prog 20 #[.int .u64 v, .int .i64 id] w fun e w' => e = .returned (.tuple #[.int .u64 (Se.putR v id).1, .int .i64 (Se.putR v id).2]) ∧ w' = w := by
  by_cases h : 1 ≤ id ∧ id ≤ 64
  · obtain ⟨k, rfl⟩ : ∃ k : Nat, id = ((k + 1 : Nat) : Int) := ⟨id.toNat - 1, by omega⟩
    have e : Se.putR v ((k + 1 : Nat) : Int) = (v ||| 2 ^ k, 0) := by rw [Se.putR, if_pos h]; rfl
    rw [e]
    exact pput_in v k hv (by omega) w
  · have e : Se.putR v id = (0, 1) := by rw [Se.putR, if_neg h]
    rw [e]
    exact pput_out v id (by omega) w

theorem within_lt (v m : Nat) (hv : v < 18446744073709551616) (hm : m ≤ 64) : Se.within v m = decide (v < 2 ^ m) := by
  rw [Bool.eq_iff_iff, Se.within_iff v m (by omega), decide_eq_true_iff]
  constructor
  · intro h
    apply Nat.lt_pow_two_of_testBit
    intro i hi
    cases hb : v.testBit i with
    | false => rfl
    | true =>
      by_cases h64 : 64 ≤ i
      · rw [Se.bits_above v i hv h64] at hb; cases hb
      · have := h (i + 1) ((Se.list_mem v (i + 1)).2 ⟨by omega, by omega, hb⟩)
        omega
  · intro h i hi
    obtain ⟨h1, h2, h3⟩ := (Se.list_mem v i).1 hi
    have := Nat.ge_two_pow_of_testBit h3
    have : ¬ m ≤ i - 1 := fun hle => by
      have := Nat.pow_le_pow_right (n := 2) (by omega) hle
      omega
    omega
theorem pwithin_in (v m : Nat) (_hv : v < 18446744073709551616) (hm : m ≤ 64) (w : World) :
    Calls Try.prog 31 #[.int .u64 v, .int .i64 m] w fun e w' => e = .returned (.bool (decide (v < 2 ^ m))) ∧ w' = w := by
  have hd : (((v : Int) / 2 ^ m) == 0) = decide (v < 2 ^ m) := by
    have e : (v : Int) / 2 ^ m = ((v / 2 ^ m : Nat) : Int) := by simp
    rw [e, Bool.eq_iff_iff, beq_iff_eq, decide_eq_true_iff]
    have hp := Nat.two_pow_pos m
    constructor
    · intro h
      have h0 : v / 2 ^ m = 0 := by omega
      exact (Nat.div_eq_zero_iff_lt hp).1 h0
    · intro h
      rw [(Nat.div_eq_zero_iff_lt hp).2 h]; rfl
  have HD := Lib.hid hd
  clear hd
  go_enter Try.func31, Try.ntmps31
  go_wp2
  go_ret
  exact ⟨by rw [← HD.out]; rfl, rfl⟩
theorem pwithin_any (v : Nat) (n : Int) (hv : v < 18446744073709551616) (w : World) :
    Calls Try.prog 31 #[.int .u64 v, .int .i64 n] w fun e w' => e = .returned (.bool (Se.within v n)) ∧ w' = w := by
  by_cases h : 0 ≤ n ∧ n ≤ 64
  · obtain ⟨m, rfl⟩ := Int.eq_ofNat_of_zero_le h.1
    have h2 : m ≤ 64 := by omega
    rw [show ((m : Nat) : Int) = (m : Int) from rfl, within_lt v m hv h2]
    exact pwithin_in v m hv h2 w
  · have e : Se.within v n = false := by simp [Se.within, h]
    rw [e]
    by_cases h0 : 0 ≤ n
    · have t1 : decide (0 ≤ n) = true := by simpa using h0
      have t2 : decide (n ≤ 64) = false := by simp; omega
      clear h h0 e
      go_enter Try.func31, Try.ntmps31
      go_wp2
      go_ret
      exact ⟨rfl, rfl⟩
    · have t1 : decide (0 ≤ n) = false := by simpa using h0
      clear h h0 e
      go_enter Try.func31, Try.ntmps31
      go_wp2
      go_ret
      exact ⟨rfl, rfl⟩
end Go.Proofs.Ytlfclkolbjiafaa
