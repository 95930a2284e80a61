/- Turning a word: the program's, and the document's. -/
import Derived.Test.YtkkiedmcpibnaaaDoorShaMath
import Derived.Test.YtkkiedmcpibnaaaDoorBase
import Derived.Laws.BitsAllLaws
namespace Sh
theorem rot_lt (x n : Nat) (hx : x < 4294967296) (hn : n ≤ 32) : rot x n < 4294967296 := by
  have hP := Nat.two_pow_pos n
  have hQ := Nat.two_pow_pos (32 - n)
  have h : 2 ^ n * 2 ^ (32 - n) = 4294967296 := by rw [← Nat.pow_add, show n + (32 - n) = 32 by omega]
  unfold rot
  generalize 2 ^ n = P at *
  generalize 2 ^ (32 - n) = Q at *
  have h1 : x / P < Q := Nat.div_lt_of_lt_mul (by rw [h]; exact hx)
  have h2 : x % P < P := Nat.mod_lt _ hP
  have h3 : (x % P + 1) * Q ≤ P * Q := Nat.mul_le_mul_right Q h2
  rw [Nat.add_mul, Nat.one_mul] at h3
  omega
end Sh
namespace Go.Proofs.YtkkiedmcpibnaaaDoor
open Go.RowKit

/-- A word as a value. -/
abbrev uv (n : Nat) : Value := .int .u32 (n : Int)

theorem rot_or (x n P Q : Nat) (hx : x < 4294967296) (hP : P = 2 ^ n) (hQ : Q = 2 ^ (32 - n)) (hn : n ≤ 32) :
    bits .or .u32 ((x : Int) * (Q : Int) % 4294967296) ((x : Int) / (P : Int)) = (Sh.rot x n : Int) := by
  have h : P * Q = 4294967296 := by rw [hP, hQ, ← Nat.pow_add, show n + (32 - n) = 32 by omega]
  have hPp : 0 < P := by rw [hP]; exact Nat.two_pow_pos n
  have hQp : 0 < Q := by rw [hQ]; exact Nat.two_pow_pos _
  have e1 : (x : Int) * (Q : Int) % 4294967296 = ((x % P * Q : Nat) : Int) := by
    have : (x * Q) % (P * Q) = x % P * Q := Nat.mul_mod_mul_right ..
    rw [h] at this
    rw [← this]
    simp
  have e2 : (x : Int) / (P : Int) = ((x / P : Nat) : Int) := by simp
  have h1 : x / P < Q := Nat.div_lt_of_lt_mul (by rw [h]; exact hx)
  have h2 : x % P < P := Nat.mod_lt _ hPp
  have h3 : (x % P + 1) * Q ≤ P * Q := Nat.mul_le_mul_right Q h2
  rw [Nat.add_mul, Nat.one_mul] at h3
  rw [e1, e2, u32_or_nat _ _ (by omega) (by omega), nat_join (32 - n) _ _ (by rw [hQ]; exact Nat.mul_mod_left ..) (by rw [← hQ]; exact h1)]
  rw [Sh.rot, ← hP, ← hQ]
  congr 1
  omega

set_option maxHeartbeats 1000000 in
theorem pright2 (x : Nat) (hx : x < 4294967296) (w : World) :
    Calls Tryd.prog 55 #[uv x, .int .i64 2] w fun e w' => e = .returned (uv (Sh.rot x 2)) ∧ w' = w := by
  have hr : Calls Tryd.prog 60 #[uv x, .int .i64 (-2)] w fun e w' => e = .returned (uv (Sh.rot x 2)) ∧ w' = w := by
    have hb : bits .and .u64 (IntKind.u64.wrap (-2)) 31 = 30 := by decide
    have e : bits .or .u32 ((x : Int) * 1073741824 % 4294967296) ((x : Int) / 4) = (Sh.rot x 2 : Int) := rot_or x 2 4 1073741824 hx rfl rfl (by decide)
    have HE := Lib.hid e
    clear e
    go_enter Tryd.func60, Tryd.ntmps60
    go_wp2
    go_ret
    exact ⟨congrArg (fun z => Ending.returned (.int .u32 z)) HE.out, rfl⟩
  go_enter Tryd.func55, Tryd.ntmps55
  go_wp2_with fail
  refine hr.mono ?_
  rintro e w1 ⟨rfl, rfl⟩
  go_wp2
  go_ret
  exact ⟨rfl, rfl⟩

set_option maxHeartbeats 1000000 in
theorem pright6 (x : Nat) (hx : x < 4294967296) (w : World) :
    Calls Tryd.prog 55 #[uv x, .int .i64 6] w fun e w' => e = .returned (uv (Sh.rot x 6)) ∧ w' = w := by
  have hr : Calls Tryd.prog 60 #[uv x, .int .i64 (-6)] w fun e w' => e = .returned (uv (Sh.rot x 6)) ∧ w' = w := by
    have hb : bits .and .u64 (IntKind.u64.wrap (-6)) 31 = 26 := by decide
    have e : bits .or .u32 ((x : Int) * 67108864 % 4294967296) ((x : Int) / 64) = (Sh.rot x 6 : Int) := rot_or x 6 64 67108864 hx rfl rfl (by decide)
    have HE := Lib.hid e
    clear e
    go_enter Tryd.func60, Tryd.ntmps60
    go_wp2
    go_ret
    exact ⟨congrArg (fun z => Ending.returned (.int .u32 z)) HE.out, rfl⟩
  go_enter Tryd.func55, Tryd.ntmps55
  go_wp2_with fail
  refine hr.mono ?_
  rintro e w1 ⟨rfl, rfl⟩
  go_wp2
  go_ret
  exact ⟨rfl, rfl⟩

set_option maxHeartbeats 1000000 in
theorem pright7 (x : Nat) (hx : x < 4294967296) (w : World) :
    Calls Tryd.prog 55 #[uv x, .int .i64 7] w fun e w' => e = .returned (uv (Sh.rot x 7)) ∧ w' = w := by
  have hr : Calls Tryd.prog 60 #[uv x, .int .i64 (-7)] w fun e w' => e = .returned (uv (Sh.rot x 7)) ∧ w' = w := by
    have hb : bits .and .u64 (IntKind.u64.wrap (-7)) 31 = 25 := by decide
    have e : bits .or .u32 ((x : Int) * 33554432 % 4294967296) ((x : Int) / 128) = (Sh.rot x 7 : Int) := rot_or x 7 128 33554432 hx rfl rfl (by decide)
    have HE := Lib.hid e
    clear e
    go_enter Tryd.func60, Tryd.ntmps60
    go_wp2
    go_ret
    exact ⟨congrArg (fun z => Ending.returned (.int .u32 z)) HE.out, rfl⟩
  go_enter Tryd.func55, Tryd.ntmps55
  go_wp2_with fail
  refine hr.mono ?_
  rintro e w1 ⟨rfl, rfl⟩
  go_wp2
  go_ret
  exact ⟨rfl, rfl⟩

set_option maxHeartbeats 1000000 in
theorem pright11 (x : Nat) (hx : x < 4294967296) (w : World) :
    Calls Tryd.prog 55 #[uv x, .int .i64 11] w fun e w' => e = .returned (uv (Sh.rot x 11)) ∧ w' = w := by
  have hr : Calls Tryd.prog 60 #[uv x, .int .i64 (-11)] w fun e w' => e = .returned (uv (Sh.rot x 11)) ∧ w' = w := by
    have hb : bits .and .u64 (IntKind.u64.wrap (-11)) 31 = 21 := by decide
    have e : bits .or .u32 ((x : Int) * 2097152 % 4294967296) ((x : Int) / 2048) = (Sh.rot x 11 : Int) := rot_or x 11 2048 2097152 hx rfl rfl (by decide)
    have HE := Lib.hid e
    clear e
    go_enter Tryd.func60, Tryd.ntmps60
    go_wp2
    go_ret
    exact ⟨congrArg (fun z => Ending.returned (.int .u32 z)) HE.out, rfl⟩
  go_enter Tryd.func55, Tryd.ntmps55
  go_wp2_with fail
  refine hr.mono ?_
  rintro e w1 ⟨rfl, rfl⟩
  go_wp2
  go_ret
  exact ⟨rfl, rfl⟩

set_option maxHeartbeats 1000000 in
theorem pright13 (x : Nat) (hx : x < 4294967296) (w : World) :
    Calls Tryd.prog 55 #[uv x, .int .i64 13] w fun e w' => e = .returned (uv (Sh.rot x 13)) ∧ w' = w := by
  have hr : Calls Tryd.prog 60 #[uv x, .int .i64 (-13)] w fun e w' => e = .returned (uv (Sh.rot x 13)) ∧ w' = w := by
    have hb : bits .and .u64 (IntKind.u64.wrap (-13)) 31 = 19 := by decide
    have e : bits .or .u32 ((x : Int) * 524288 % 4294967296) ((x : Int) / 8192) = (Sh.rot x 13 : Int) := rot_or x 13 8192 524288 hx rfl rfl (by decide)
    have HE := Lib.hid e
    clear e
    go_enter Tryd.func60, Tryd.ntmps60
    go_wp2
    go_ret
    exact ⟨congrArg (fun z => Ending.returned (.int .u32 z)) HE.out, rfl⟩
  go_enter Tryd.func55, Tryd.ntmps55
  go_wp2_with fail
  refine hr.mono ?_
  rintro e w1 ⟨rfl, rfl⟩
  go_wp2
  go_ret
  exact ⟨rfl, rfl⟩

set_option maxHeartbeats 1000000 in
theorem pright17 (x : Nat) (hx : x < 4294967296) (w : World) :
    Calls Tryd.prog 55 #[uv x, .int .i64 17] w fun e w' => e = .returned (uv (Sh.rot x 17)) ∧ w' = w := by
  have hr : Calls Tryd.prog 60 #[uv x, .int .i64 (-17)] w fun e w' => e = .returned (uv (Sh.rot x 17)) ∧ w' = w := by
    have hb : bits .and .u64 (IntKind.u64.wrap (-17)) 31 = 15 := by decide
    have e : bits .or .u32 ((x : Int) * 32768 % 4294967296) ((x : Int) / 131072) = (Sh.rot x 17 : Int) := rot_or x 17 131072 32768 hx rfl rfl (by decide)
    have HE := Lib.hid e
    clear e
    go_enter Tryd.func60, Tryd.ntmps60
    go_wp2
    go_ret
    exact ⟨congrArg (fun z => Ending.returned (.int .u32 z)) HE.out, rfl⟩
  go_enter Tryd.func55, Tryd.ntmps55
  go_wp2_with fail
  refine hr.mono ?_
  rintro e w1 ⟨rfl, rfl⟩
  go_wp2
  go_ret
  exact ⟨rfl, rfl⟩

set_option maxHeartbeats 1000000 in
theorem pright18 (x : Nat) (hx : x < 4294967296) (w : World) :
    Calls Tryd.prog 55 #[uv x, .int .i64 18] w fun e w' => e = .returned (uv (Sh.rot x 18)) ∧ w' = w := by
  have hr : Calls Tryd.prog 60 #[uv x, .int .i64 (-18)] w fun e w' => e = .returned (uv (Sh.rot x 18)) ∧ w' = w := by
    have hb : bits .and .u64 (IntKind.u64.wrap (-18)) 31 = 14 := by decide
    have e : bits .or .u32 ((x : Int) * 16384 % 4294967296) ((x : Int) / 262144) = (Sh.rot x 18 : Int) := rot_or x 18 262144 16384 hx rfl rfl (by decide)
    have HE := Lib.hid e
    clear e
    go_enter Tryd.func60, Tryd.ntmps60
    go_wp2
    go_ret
    exact ⟨congrArg (fun z => Ending.returned (.int .u32 z)) HE.out, rfl⟩
  go_enter Tryd.func55, Tryd.ntmps55
  go_wp2_with fail
  refine hr.mono ?_
  rintro e w1 ⟨rfl, rfl⟩
  go_wp2
  go_ret
  exact ⟨rfl, rfl⟩

set_option maxHeartbeats 1000000 in
theorem pright19 (x : Nat) (hx : x < 4294967296) (w : World) :
    Calls Tryd.prog 55 #[uv x, .int .i64 19] w fun e w' => e = .returned (uv (Sh.rot x 19)) ∧ w' = w := by
  have hr : Calls Tryd.prog 60 #[uv x, .int .i64 (-19)] w fun e w' => e = .returned (uv (Sh.rot x 19)) ∧ w' = w := by
    have hb : bits .and .u64 (IntKind.u64.wrap (-19)) 31 = 13 := by decide
    have e : bits .or .u32 ((x : Int) * 8192 % 4294967296) ((x : Int) / 524288) = (Sh.rot x 19 : Int) := rot_or x 19 524288 8192 hx rfl rfl (by decide)
    have HE := Lib.hid e
    clear e
    go_enter Tryd.func60, Tryd.ntmps60
    go_wp2
    go_ret
    exact ⟨congrArg (fun z => Ending.returned (.int .u32 z)) HE.out, rfl⟩
  go_enter Tryd.func55, Tryd.ntmps55
  go_wp2_with fail
  refine hr.mono ?_
  rintro e w1 ⟨rfl, rfl⟩
  go_wp2
  go_ret
  exact ⟨rfl, rfl⟩

set_option maxHeartbeats 1000000 in
theorem pright22 (x : Nat) (hx : x < 4294967296) (w : World) :
    Calls Tryd.prog 55 #[uv x, .int .i64 22] w fun e w' => e = .returned (uv (Sh.rot x 22)) ∧ w' = w := by
  have hr : Calls Tryd.prog 60 #[uv x, .int .i64 (-22)] w fun e w' => e = .returned (uv (Sh.rot x 22)) ∧ w' = w := by
    have hb : bits .and .u64 (IntKind.u64.wrap (-22)) 31 = 10 := by decide
    have e : bits .or .u32 ((x : Int) * 1024 % 4294967296) ((x : Int) / 4194304) = (Sh.rot x 22 : Int) := rot_or x 22 4194304 1024 hx rfl rfl (by decide)
    have HE := Lib.hid e
    clear e
    go_enter Tryd.func60, Tryd.ntmps60
    go_wp2
    go_ret
    exact ⟨congrArg (fun z => Ending.returned (.int .u32 z)) HE.out, rfl⟩
  go_enter Tryd.func55, Tryd.ntmps55
  go_wp2_with fail
  refine hr.mono ?_
  rintro e w1 ⟨rfl, rfl⟩
  go_wp2
  go_ret
  exact ⟨rfl, rfl⟩

set_option maxHeartbeats 1000000 in
theorem pright25 (x : Nat) (hx : x < 4294967296) (w : World) :
    Calls Tryd.prog 55 #[uv x, .int .i64 25] w fun e w' => e = .returned (uv (Sh.rot x 25)) ∧ w' = w := by
  have hr : Calls Tryd.prog 60 #[uv x, .int .i64 (-25)] w fun e w' => e = .returned (uv (Sh.rot x 25)) ∧ w' = w := by
    have hb : bits .and .u64 (IntKind.u64.wrap (-25)) 31 = 7 := by decide
    have e : bits .or .u32 ((x : Int) * 128 % 4294967296) ((x : Int) / 33554432) = (Sh.rot x 25 : Int) := rot_or x 25 33554432 128 hx rfl rfl (by decide)
    have HE := Lib.hid e
    clear e
    go_enter Tryd.func60, Tryd.ntmps60
    go_wp2
    go_ret
    exact ⟨congrArg (fun z => Ending.returned (.int .u32 z)) HE.out, rfl⟩
  go_enter Tryd.func55, Tryd.ntmps55
  go_wp2_with fail
  refine hr.mono ?_
  rintro e w1 ⟨rfl, rfl⟩
  go_wp2
  go_ret
  exact ⟨rfl, rfl⟩

set_option maxHeartbeats 1000000 in
theorem rturn_any (x n : Nat) (hx : x < 4294967296) (h1 : 1 ≤ n) (h2 : n ≤ 31) (w : World) :
    Calls Tryd.prog 46 #[uv x, .int .i64 n] w fun e w' => e = .returned (uv (Sh.rot x n)) ∧ w' = w := by
  go_enter Tryd.func46, Tryd.ntmps46
  go_wp2_with fail
  go_loopw [5, 6] (fun p i wr => ∃ k m : Nat, i = .int .i64 k ∧ k ≤ n ∧ m = 2 ^ k ∧ p = uv m ∧ wr = w) (fun _ i _ => n - (intOf i).toNat)
  case atStart => exact ⟨0, 1, rfl, by omega, rfl, rfl, rfl⟩
  case round =>
    obtain ⟨k, m, rfl, hk, hm, rfl, rfl⟩ := hrel
    by_cases hlt : k < n
    · have hb : m * 2 ≤ 2147483648 := by
        have : 2 ^ (k + 1) ≤ 2 ^ 31 := Nat.pow_le_pow_right (by omega) (by omega)
        rw [Nat.pow_succ, ← hm] at this
        omega
      have hm' : m * 2 = 2 ^ (k + 1) := by rw [Nat.pow_succ, hm]
      have HM := Lib.hid hm'
      clear hm hm'
      go_wp2
      go_roundw
      case rel => exact ⟨k + 1, m * 2, by go_num, hlt, HM.out, by simp [uv], trivial⟩
      case measure => simp [intOf]; omega
    · obtain rfl : k = n := by omega
      have HM := Lib.hid hm
      have hm0 : m ≠ 0 := by rw [hm]; have := Nat.two_pow_pos k; omega
      clear hm
      have hr0 : x % m < m := Nat.mod_lt _ (by omega)
      have hq0 : x / m + x % m * 2 ^ (32 - k) = Sh.rot x k := by rw [Sh.rot, ← HM.out]
      have HQ := Lib.hid hq0
      have hlt32 := Sh.rot_lt x k hx (by omega)
      have hmul : m * 2 ^ (32 - k) = 4294967296 := by rw [HM.out, ← Nat.pow_add, show k + (32 - k) = 32 by omega]
      have HL := Lib.hid hmul
      have hdec : ((x % m : Nat) : Int) = (x : Int) % (m : Int) := by simp
      obtain ⟨r, hr⟩ : ∃ r, x % m = r := ⟨_, rfl⟩
      rw [hr] at hr0 hq0 hdec
      have HRR := Lib.hid hr
      have HDD := Lib.hid hdec
      have HQ := Lib.hid hq0
      clear hq0 hmul hr hdec
      go_wp2_with fail
      rw [← HDD.out]
      go_loopw [7, 8] (fun p i w2 => ∃ j l : Nat, i = .int .i64 j ∧ j ≤ 32 - k ∧ l = r * 2 ^ j ∧ p = uv l ∧ w2 = wr) (fun _ i _ => 32 - k - (intOf i).toNat)
      case atStart => exact ⟨0, r, rfl, by omega, by simp, rfl, rfl⟩
      case round =>
        obtain ⟨j, l, rfl, hj, hl, rfl, rfl⟩ := hrel
        by_cases hlt : j < 32 - k
        · have hb : l * 2 < 4294967296 := by
            have h1 : r * 2 ^ (j + 1) < m * 2 ^ (32 - k) := by
              have h2 : 2 ^ (j + 1) ≤ 2 ^ (32 - k) := Nat.pow_le_pow_right (by omega) hlt
              have h3 := Nat.two_pow_pos (j + 1)
              calc r * 2 ^ (j + 1) < m * 2 ^ (j + 1) := Nat.mul_lt_mul_of_pos_right hr0 h3
                _ ≤ m * 2 ^ (32 - k) := Nat.mul_le_mul_left _ h2
            rw [HL.out, Nat.pow_succ, ← Nat.mul_assoc, ← hl] at h1
            exact h1
          have HLL := Lib.hid (show l * 2 = r * 2 ^ (j + 1) by rw [Nat.pow_succ, ← Nat.mul_assoc, hl])
          have t1 : decide ((j : Int) < 32 - (k : Int)) = true := decide_eq_true (by omega)
          clear hl
          go_wp2
          go_roundw
          case rel => exact ⟨j + 1, l * 2, by go_num, hlt, HLL.out, by simp [uv], trivial⟩
          case measure => simp [intOf]; omega
        · obtain rfl : j = 32 - k := by omega
          have HLL := Lib.hid hl
          have t1 : decide ((((32 - k : Nat)) : Int) < 32 - (k : Int)) = false := decide_eq_false (by omega)
          have t2 : x / m + l < 4294967296 := by rw [hl, HQ.out]; exact hlt32
          have t3 : ((x : Int) / (m : Int) % 4294967296 + (l : Int)) % 4294967296 = ((x / m + l : Nat) : Int) := by
            have e : (x : Int) / (m : Int) = ((x / m : Nat) : Int) := by simp
            rw [e]
            generalize x / m = z at *
            omega
          have T3 := Lib.hid t3
          clear hl t3 t2
          go_wp2
          go_ret
          exact ⟨by rw [← HQ.out, ← HLL.out]; exact congrArg (fun z => Ending.returned (.int .u32 z)) T3.out, rfl⟩

theorem div2 (x k : Nat) : x / 2 ^ (k + 1) = x / 2 ^ k / 2 := by rw [Nat.pow_succ, Nat.div_div_eq_div_mul]
set_option maxHeartbeats 1000000 in
theorem rover_any (x n : Nat) (hx : x < 4294967296) (h2 : n ≤ 31) (w : World) :
    Calls Tryd.prog 47 #[uv x, .int .i64 n] w fun e w' => e = .returned (uv (x / 2 ^ n)) ∧ w' = w := by
  go_enter Tryd.func47, Tryd.ntmps47
  go_wp2_with fail
  go_loopw [0, 5] (fun p i wr => ∃ k m : Nat, i = .int .i64 k ∧ k ≤ n ∧ m < 4294967296 ∧ m = x / 2 ^ k ∧ p = uv m ∧ wr = w) (fun _ i _ => n - (intOf i).toNat)
  case atStart => exact ⟨0, x, rfl, by omega, hx, by simp, rfl, rfl⟩
  case round =>
    obtain ⟨k, m, rfl, hk, hml, hm, rfl, rfl⟩ := hrel
    by_cases hlt : k < n
    · have HM := Lib.hid (show m / 2 = x / 2 ^ (k + 1) by rw [div2, ← hm])
      clear hm
      go_wp2
      go_roundw
      case rel => exact ⟨k + 1, m / 2, by go_num, hlt, by omega, HM.out, by simp [uv], trivial⟩
      case measure => simp [intOf]; omega
    · obtain rfl : k = n := by omega
      have HM := Lib.hid hm
      clear hm
      go_wp2
      go_ret
      exact ⟨by rw [← HM.out]; rfl, rfl⟩
end Go.Proofs.YtkkiedmcpibnaaaDoor
