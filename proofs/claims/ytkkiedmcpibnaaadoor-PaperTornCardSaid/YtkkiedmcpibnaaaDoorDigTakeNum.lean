/- The contract of TakeNum, in the program's own text. -/
import Derived.Test.YtkkiedmcpibnaaaDoorDigText
import Derived.Deep.QuietTactic
import Derived.BigQuiet
import Derived.Laws.BitsAllLaws
import Derived.Lib.Strings
namespace Go.Proofs.YtkkiedmcpibnaaaDoor
open Go.RowKit

def TN (l : List UInt8) (w : World) (e : Ending) (w' : World) : Prop :=
  e = .returned (.tuple #[.int .u64 (Dg.takeNum l).1, tx (Dg.takeNum l).2.1, .int .i64 (Dg.takeNum l).2.2]) ∧ ∃ n, w' = w.drewN n

set_option maxHeartbeats 1000000 in
theorem takeNum_nil (w : World) : Calls Tryd.prog 56 #[tx []] w (TN [] w) := by
  go_enter Tryd.func56, Tryd.ntmps56
  go_wp2
  go_ret3
  exact ⟨rfl, 0, rfl⟩

set_option maxHeartbeats 1000000 in
theorem takeNum_big (b : UInt8) (r : List UInt8) (h : 8 < b.toNat) (hr : r.length ≤ 140737488351232) (w : World) : Calls Tryd.prog 56 #[tx (b :: r)] w (TN (b :: r) w) := by
  have hb : b.toNat < 256 := b.toNat_lt
  have hf : Dg.takeNum (b :: r) = (0, [], 3) := by simp [Dg.takeNum, h]
  have HF := Lib.hid hf
  clear hf
  go_enter Tryd.func56, Tryd.ntmps56
  go_wp2
  go_quiet (fail)
  simp only [ba_zero, ba_tail, w64_byte]
  go_wp2
  go_ret3
  exact ⟨by rw [HF.out]; rfl, _, rfl⟩

set_option maxHeartbeats 1000000 in
theorem takeNum_short (b : UInt8) (r : List UInt8) (h : b.toNat ≤ 8) (h2 : r.length < b.toNat) (hr : r.length ≤ 140737488351232) (w : World) : Calls Tryd.prog 56 #[tx (b :: r)] w (TN (b :: r) w) := by
  have h' : ¬ 8 < b.toNat := by omega
  have hf : Dg.takeNum (b :: r) = (0, [], 2) := by simp [Dg.takeNum, h', h2]
  have HF := Lib.hid hf
  clear hf
  go_enter Tryd.func56, Tryd.ntmps56
  go_wp2
  go_quiet (fail)
  simp only [ba_zero, ba_tail, w64_byte]
  go_wp2
  go_ret3
  exact ⟨by rw [HF.out]; rfl, _, rfl⟩

theorem head_zero (r : List UInt8) (h : 0 < r.length) : r.headD 1 = (ByteArray.mk r.toArray)[0]'h := by
  cases r with
  | nil => simp at h
  | cons b r => rfl

set_option maxHeartbeats 1000000 in
theorem takeNum_zero (b : UInt8) (r : List UInt8) (h : b.toNat ≤ 8) (h2 : b.toNat ≤ r.length) (h3 : 0 < b.toNat) (h4 : r.headD 1 = 0) (hr : r.length ≤ 140737488351232) (w : World) : Calls Tryd.prog 56 #[tx (b :: r)] w (TN (b :: r) w) := by
  have h' : ¬ 8 < b.toNat := by omega
  have h2' : ¬ r.length < b.toNat := by omega
  have hf : Dg.takeNum (b :: r) = (0, [], 3) := by rw [Dg.takeNum, if_neg h', if_neg h2', if_pos ⟨h3, h4⟩]
  have h0 : 0 < r.length := by omega
  have hz : ((((ByteArray.mk r.toArray)[0]'h0).toNat : Int) == 0) = true := by rw [← head_zero r h0, h4]; rfl
  have HF := Lib.hid hf
  clear hf h4
  go_enter Tryd.func56, Tryd.ntmps56
  go_wp2
  go_quiet (fail)
  simp only [ba_zero, ba_tail, w64_byte]
  go_wp2
  go_ret3
  exact ⟨by rw [HF.out]; rfl, _, rfl⟩

theorem or_byte (a : Nat) (b : UInt8) (h : a < 72057594037927936) : bits .or .u64 ((a : Int) * 256) (IntKind.u64.wrap (b.toNat : Int)) = ((a * 256 + b.toNat : Nat) : Int) := by
  have hb := b.toNat_lt
  rw [IntWalk.u64_in _ ⟨by omega, by omega⟩]
  rw [show ((a : Int) * 256) = ((a * 256 : Nat) : Int) by omega, u64_or_nat _ _ (by omega) (by omega)]
  rw [show a * 256 = 2 ^ 8 * a by omega, Nat.two_pow_add_eq_or_of_lt (by omega)]

theorem ofB_take_succ (r : List UInt8) (k : Nat) (h : k < r.length) : Dg.ofB (r.take (k + 1)) = Dg.ofB (r.take k) * 256 + r[k].toNat := by
  rw [List.take_succ_eq_append_getElem h, Dg.ofB_snoc]

theorem ofB_take_lt (r : List UInt8) (k : Nat) (h : k ≤ 7) : Dg.ofB (r.take k) < 72057594037927936 := by
  have h1 := Dg.ofB_lt (r.take k)
  have h2 : (r.take k).length ≤ 7 := by simp; omega
  have := Nat.pow_le_pow_right (n := 256) (by omega) h2
  omega

set_option maxHeartbeats 1000000 in
theorem takeNum_good (b : UInt8) (r : List UInt8) (h : b.toNat ≤ 8) (h2 : b.toNat ≤ r.length) (h3 : 0 < b.toNat) (h4 : r.headD 1 ≠ 0) (hr : r.length ≤ 140737488351232) (w : World) : Calls Tryd.prog 56 #[tx (b :: r)] w (TN (b :: r) w) := by
  have h' : ¬ 8 < b.toNat := by omega
  have h2' : ¬ r.length < b.toNat := by omega
  have hf : Dg.takeNum (b :: r) = (Dg.ofB (r.take b.toNat), r.drop b.toNat, 0) := by rw [Dg.takeNum, if_neg h', if_neg h2', if_neg (fun hh => h4 hh.2)]
  have h0 : 0 < r.length := by omega
  have hz : ((((ByteArray.mk r.toArray)[0]'h0).toNat : Int) == 0) = false := by
    rw [← head_zero r h0, beq_eq_false_iff_ne]
    intro hh
    exact h4 (UInt8.toNat_inj.1 (by simpa using hh))
  have HF := Lib.hid hf
  clear hf h4
  go_enter Tryd.func56, Tryd.ntmps56
  go_wp2
  go_quiet (fail)
  simp only [ba_zero, ba_tail, w64_byte]
  go_wp2
  go_loop [7, 8, 30] (fun v _ i => ∃ k : Nat, k ≤ b.toNat ∧ i = .int .i64 k ∧ v = .int .u64 (Dg.ofB (r.take k))) (fun _ _ i => b.toNat - (intOf i).toNat)
  case atStart => exact ⟨0, by omega, rfl, rfl⟩
  case round =>
    obtain ⟨k, hk, rfl, rfl⟩ := hrel
    by_cases hlt : k < b.toNat
    · have hbd := ofB_take_lt r k (by omega)
      have hkr : k < r.length := by omega
      have hs := ofB_take_succ r k hkr
      have hor := or_byte _ r[k] hbd
      have HS := Lib.hid hs
      have HO := Lib.hid hor
      clear hs hor
      go_wp2
      go_round
      case rel => exact ⟨k + 1, by omega, by go_num, by rw [HS.out, ← HO.out]; rfl⟩
      case measure => simp [intOf]; omega
    · obtain rfl : k = b.toNat := by omega
      go_wp2
      go_quiet (fail)
      simp only [ba_drop]
      go_wp2
      go_ret3
      exact ⟨by rw [HF.out]; rfl, _, by rw [World.drewN_drewN]⟩
set_option maxHeartbeats 1000000 in
theorem takeNum_none (r : List UInt8) (hr : r.length ≤ 140737488351232) (w : World) : Calls Tryd.prog 56 #[tx (0 :: r)] w (TN (0 :: r) w) := by
  have hf : Dg.takeNum (0 :: r) = (0, r, 0) := by simp [Dg.takeNum, Dg.ofB]
  have HF := Lib.hid hf
  clear hf
  go_enter Tryd.func56, Tryd.ntmps56
  go_wp2
  go_quiet (fail)
  simp only [ba_zero, ba_tail, w64_byte]
  go_wp2
  go_loop [7, 8, 30] (fun v _ i => i = .int .i64 0 ∧ v = .int .u64 0) (fun _ _ _ => 0)
  case atStart => exact ⟨rfl, rfl⟩
  case round =>
    obtain ⟨rfl, rfl⟩ := hrel
    go_wp2
    go_quiet (fail)
    simp only [ba_drop]
    go_wp2
    go_ret3
    exact ⟨by rw [HF.out]; rfl, _, by rw [World.drewN_drewN]⟩

theorem takeNum_any (l : List UInt8) (hl : l.length ≤ 140737488351232) (w : World) : Calls Tryd.prog 56 #[tx l] w (TN l w) := by
  cases l with
  | nil => exact takeNum_nil w
  | cons b r =>
    have hr : r.length ≤ 140737488351232 := by simp at hl; omega
    by_cases h1 : 8 < b.toNat
    · exact takeNum_big b r h1 hr w
    by_cases h2 : r.length < b.toNat
    · exact takeNum_short b r (by omega) h2 hr w
    by_cases h3 : 0 < b.toNat
    · by_cases h4 : r.headD 1 = 0
      · exact takeNum_zero b r (by omega) (by omega) h3 h4 hr w
      · exact takeNum_good b r (by omega) (by omega) h3 h4 hr w
    · obtain rfl : b = 0 := UInt8.toNat_inj.1 (by simp; omega)
      exact takeNum_none r hr w
end Go.Proofs.YtkkiedmcpibnaaaDoor
