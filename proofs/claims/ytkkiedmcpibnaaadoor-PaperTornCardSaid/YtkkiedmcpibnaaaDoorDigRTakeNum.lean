/- The contract of the document's TakeNum. -/
import Derived.Test.YtkkiedmcpibnaaaDoorDigTakeNum
namespace Go.Proofs.YtkkiedmcpibnaaaDoor
open Go.RowKit
attribute [local go_sem] ba_zero w64_byte

theorem byte_succ (b : UInt8) (r : List UInt8) (k : Nat) (h : k + 1 < (ByteArray.mk (b :: r).toArray).size) (h' : k < r.length) : (ByteArray.mk (b :: r).toArray)[k + 1]'h = r[k] := rfl
theorem ba_drop_succ (b : UInt8) (r : List UInt8) (k : Nat) : (ByteArray.mk (b :: r).toArray).extract (1 + k) (r.length + 1) = ByteArray.mk (r.drop k).toArray := by
  have := ba_drop (b :: r) (1 + k)
  rw [Nat.add_comm 1 k] at this ⊢
  simpa using this

set_option maxHeartbeats 1000000 in
theorem rtakeNum_nil (w : World) : Calls Tryd.prog 41 #[tx []] w (TN [] w) := by
  go_enter Tryd.func41, Tryd.ntmps41
  go_wp2
  go_ret3
  exact ⟨rfl, 0, rfl⟩

set_option maxHeartbeats 1000000 in
theorem rtakeNum_big (b : UInt8) (r : List UInt8) (h : 8 < b.toNat) (hr : r.length ≤ 140737488351232) (w : World) : Calls Tryd.prog 41 #[tx (b :: r)] w (TN (b :: r) w) := by
  have hb : b.toNat < 256 := b.toNat_lt
  have hf : Dg.takeNum (b :: r) = (0, [], 3) := by simp [Dg.takeNum, h]
  have hz : ((r.length : Int) + 1 == 0) = false := by rw [beq_eq_false_iff_ne]; omega
  have HF := Lib.hid hf
  clear hf
  go_enter Tryd.func41, Tryd.ntmps41
  go_wp2
  go_ret3
  exact ⟨by rw [HF.out]; rfl, 0, rfl⟩

set_option maxHeartbeats 1000000 in
theorem rtakeNum_short (b : UInt8) (r : List UInt8) (h : b.toNat ≤ 8) (h2 : r.length < b.toNat) (hr : r.length ≤ 140737488351232) (w : World) : Calls Tryd.prog 41 #[tx (b :: r)] w (TN (b :: r) w) := by
  have h' : ¬ 8 < b.toNat := by omega
  have hf : Dg.takeNum (b :: r) = (0, [], 2) := by simp [Dg.takeNum, h', h2]
  have hz : ((r.length : Int) + 1 == 0) = false := by rw [beq_eq_false_iff_ne]; omega
  have HF := Lib.hid hf
  clear hf
  go_enter Tryd.func41, Tryd.ntmps41
  go_wp2
  go_ret3
  exact ⟨by rw [HF.out]; rfl, 0, rfl⟩

theorem byte_one (b : UInt8) (r : List UInt8) (h : 1 < (ByteArray.mk (b :: r).toArray).size) (h0 : 0 < r.length) : (ByteArray.mk (b :: r).toArray)[1]'h = (ByteArray.mk r.toArray)[0]'h0 := rfl

set_option maxHeartbeats 1000000 in
theorem rtakeNum_zero (b : UInt8) (r : List UInt8) (h : b.toNat ≤ 8) (h2 : b.toNat ≤ r.length) (h3 : 0 < b.toNat) (h4 : r.headD 1 = 0) (hr : r.length ≤ 140737488351232) (w : World) : Calls Tryd.prog 41 #[tx (b :: r)] w (TN (b :: r) w) := by
  have h' : ¬ 8 < b.toNat := by omega
  have h2' : ¬ r.length < b.toNat := by omega
  have hf : Dg.takeNum (b :: r) = (0, [], 3) := by rw [Dg.takeNum, if_neg h', if_neg h2', if_pos ⟨h3, h4⟩]
  have hz : ((r.length : Int) + 1 == 0) = false := by rw [beq_eq_false_iff_ne]; omega
  have h0 : 0 < r.length := by omega
  have h1 : 1 < (ByteArray.mk (b :: r).toArray).size := by simp [ByteArray.size]; omega
  have hz1 : ((((ByteArray.mk (b :: r).toArray)[1]'h1).toNat : Int) == 0) = true := by rw [byte_one _ _ _ h0, ← head_zero r h0, h4]; rfl
  have HF := Lib.hid hf
  clear hf h4
  go_enter Tryd.func41, Tryd.ntmps41
  go_wp2
  go_ret3
  exact ⟨by rw [HF.out]; rfl, 0, rfl⟩

theorem wrap_byte (a : Nat) (b : UInt8) (h : a < 72057594037927936) : IntKind.u64.wrap ((a : Int) * 256 + IntKind.u64.wrap (b.toNat : Int)) = ((a * 256 + b.toNat : Nat) : Int) := by
  have hb := b.toNat_lt
  rw [IntWalk.u64_in (b.toNat : Int) ⟨by omega, by omega⟩, IntWalk.u64_in _ ⟨by omega, by omega⟩]
  omega

set_option maxHeartbeats 1000000 in
theorem rtakeNum_good (b : UInt8) (r : List UInt8) (h : b.toNat ≤ 8) (h2 : b.toNat ≤ r.length) (h3 : 0 < b.toNat) (h4 : r.headD 1 ≠ 0) (hr : r.length ≤ 140737488351232) (w : World) : Calls Tryd.prog 41 #[tx (b :: r)] w (TN (b :: r) w) := by
  have h' : ¬ 8 < b.toNat := by omega
  have h2' : ¬ r.length < b.toNat := by omega
  have hf : Dg.takeNum (b :: r) = (Dg.ofB (r.take b.toNat), r.drop b.toNat, 0) := by rw [Dg.takeNum, if_neg h', if_neg h2', if_neg (fun hh => h4 hh.2)]
  have hz : ((r.length : Int) + 1 == 0) = false := by rw [beq_eq_false_iff_ne]; omega
  have h0 : 0 < r.length := by omega
  have h1 : 1 < (ByteArray.mk (b :: r).toArray).size := by simp [ByteArray.size]; omega
  have hz1 : ((((ByteArray.mk (b :: r).toArray)[1]'h1).toNat : Int) == 0) = false := by
    rw [byte_one _ _ _ h0, ← head_zero r h0, beq_eq_false_iff_ne]
    intro hh
    exact h4 (UInt8.toNat_inj.1 (by simpa using hh))
  have HF := Lib.hid hf
  clear hf h4
  go_enter Tryd.func41, Tryd.ntmps41
  go_wp2
  clear hz1 hz
  go_loop [6, 7] (fun v i => ∃ k : Nat, k ≤ b.toNat ∧ i = .int .i64 (k + 1 : Nat) ∧ v = .int .u64 (Dg.ofB (r.take k))) (fun _ i => b.toNat + 1 - (intOf i).toNat)
  case atStart => exact ⟨0, by omega, rfl, rfl⟩
  case round =>
    obtain ⟨k, hk, rfl, rfl⟩ := hrel
    by_cases hlt : k < b.toNat
    · have hbd := ofB_take_lt r k (by omega)
      have hkr : k < r.length := by omega
      have hs := ofB_take_succ r k hkr
      have HS := Lib.hid hs
      clear hs
      go_wp2
      go_round
      case rel => exact ⟨k + 1, by omega, by go_num, by rw [byte_succ b r k _ hkr, wrap_byte _ _ hbd, HS.out]⟩
      case measure => simp [intOf]; omega
    · obtain rfl : k = b.toNat := by omega
      go_wp2
      go_quiet (fail)
      simp only [ba_drop_succ]
      go_wp2
      go_ret3
      exact ⟨by rw [HF.out]; rfl, _, rfl⟩

set_option maxHeartbeats 1000000 in
theorem rtakeNum_none (r : List UInt8) (hr : r.length ≤ 140737488351232) (w : World) : Calls Tryd.prog 41 #[tx (0 :: r)] w (TN (0 :: r) w) := by
  have hf : Dg.takeNum (0 :: r) = (0, r, 0) := by simp [Dg.takeNum, Dg.ofB]
  have hz : ((r.length : Int) + 1 == 0) = false := by rw [beq_eq_false_iff_ne]; omega
  have HF := Lib.hid hf
  clear hf
  go_enter Tryd.func41, Tryd.ntmps41
  go_wp2
  clear hz
  go_loop [6, 7] (fun v i => i = .int .i64 1 ∧ v = .int .u64 0) (fun _ _ => 0)
  case atStart => exact ⟨rfl, rfl⟩
  case round =>
    obtain ⟨rfl, rfl⟩ := hrel
    go_wp2
    go_quiet (fail)
    simp only [ba_tail]
    go_wp2
    go_ret3
    exact ⟨by rw [HF.out]; rfl, _, rfl⟩

theorem rtakeNum_any (l : List UInt8) (hl : l.length ≤ 140737488351232) (w : World) : Calls Tryd.prog 41 #[tx l] w (TN l w) := by
  cases l with
  | nil => exact rtakeNum_nil w
  | cons b r =>
    have hr : r.length ≤ 140737488351232 := by simp at hl; omega
    by_cases h1 : 8 < b.toNat
    · exact rtakeNum_big b r h1 hr w
    by_cases h2 : r.length < b.toNat
    · exact rtakeNum_short b r (by omega) h2 hr w
    by_cases h3 : 0 < b.toNat
    · by_cases h4 : r.headD 1 = 0
      · exact rtakeNum_zero b r (by omega) (by omega) h3 h4 hr w
      · exact rtakeNum_good b r (by omega) (by omega) h3 h4 hr w
    · obtain rfl : b = 0 := UInt8.toNat_inj.1 (by simp; omega)
      exact rtakeNum_none r hr w
end Go.Proofs.YtkkiedmcpibnaaaDoor
