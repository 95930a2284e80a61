/- The contracts of the document's answer of layer 5, more: Put, Of, Within, Ints, May, Faults, Quorum, Weak. -/
import Derived.Test.YtpodccgaigkalaaSeatRef
namespace Go.Proofs.Ytpodccgaigkalaa
open Go.RowKit

theorem rhas_eq {v : Nat} {id : Int} {b : Bool} (h : Se.has v id = b) (hv : v < 18446744073709551616) (w : World) :
    Calls Try.prog 39 #[.int .u64 v, .int .i64 id] w fun e w' => e = .returned (.bool b) ∧ Below w.heap.size w w' := by subst h; exact rhas_any v id hv w

set_option maxHeartbeats 2000000 in
theorem rput_out (v : Nat) (id : Int) (h : id < 1 ∨ 64 < id) (w : World) :
    Calls Try.prog 30 #[.int .u64 v, .int .i64 id] w fun e w' => e = .returned (.tuple #[.int .u64 0, .int .i64 1]) ∧ Below w.heap.size w w' := by
  rcases h with h | h
  · go_enter Try.func30, Try.ntmps30
    go_wp2
    go_ret2
    exact ⟨rfl, Below.refl _ _⟩
  · go_enter Try.func30, Try.ntmps30
    go_wp2
    go_ret2
    exact ⟨rfl, Below.refl _ _⟩

set_option maxHeartbeats 2000000 in
theorem rput_in (v i : Nat) (hv : v < 18446744073709551616) (h1 : 1 ≤ i) (h2 : i ≤ 64) (w : World) :
    Calls Try.prog 30 #[.int .u64 v, .int .i64 i] w fun e w' => e = .returned (.tuple #[.int .u64 (Se.put v i), .int .i64 0]) ∧ Below w.heap.size w w' := by
  by_cases hb : v.testBit (i - 1) = true
  · have hh : Se.has v i = true := by rw [Se.has_nat v i h1 h2]; exact hb
    have hp := Se.put_there v i hb
    have HH := Lib.hid hh
    have HP := Lib.hid hp
    clear hh hp hb
    go_enter Try.func30, Try.ntmps30
    go_wp2_with fail
    refine (rhas_eq HH.out hv _).mono ?_
    rintro e w1 ⟨rfl, hb⟩
    go_wp2
    go_ret2
    exact ⟨by rw [HP.out]; rfl, hb⟩
  · have hb' : v.testBit (i - 1) = false := by simpa using hb
    have hh : Se.has v i = false := by rw [Se.has_nat v i h1 h2]; exact hb'
    have hp := Se.put_add v i hb'
    have hlt := Se.put_lt v i hv h1 h2
    have HH := Lib.hid hh
    have HP := Lib.hid hp
    rw [hp] at hlt
    clear hh hp hb hb'
    go_enter Try.func30, Try.ntmps30
    go_wp2_with fail
    refine (rhas_eq HH.out hv _).mono ?_
    rintro e w1 ⟨rfl, hb⟩
    go_wp2_with fail
    go_loop [7, 8] (fun o j => ∃ k : Nat, j = .int .i64 (k + 1 : Nat) ∧ k + 1 ≤ i ∧ o = .int .u64 (2 ^ k : Nat)) (fun _ j => i - (intOf j).toNat)
    case atStart => exact ⟨0, rfl, h1, rfl⟩
    case round =>
      obtain ⟨k, rfl, hk, rfl⟩ := hrel
      by_cases hlt2 : k + 1 < i
      · have hpow : 2 ^ (k + 1) = 2 ^ k * 2 := Nat.pow_succ 2 k
        have hbd : 2 ^ (k + 1) ≤ 2 ^ 63 := Nat.pow_le_pow_right (by omega) (by omega)
        obtain ⟨o, ho⟩ : ∃ o, 2 ^ k = o := ⟨_, rfl⟩
        rw [hpow, ho] at hbd
        rw [ho] at hpow
        have HO := Lib.hid ho
        have HW := Lib.hid hpow
        rw [ho]
        clear ho hpow
        go_wp2
        go_round
        case rel => exact ⟨k + 1, by go_num, by omega, by rw [HW.out]; rfl⟩
        case measure => simp [intOf]; omega
      · obtain rfl : i = k + 1 := by omega
        obtain ⟨o, ho⟩ : ∃ o, 2 ^ k = o := ⟨_, rfl⟩
        rw [Nat.add_sub_cancel, ho] at hlt
        rw [ho]
        have HO := Lib.hid ho
        clear ho
        go_wp2
        go_ret2
        exact ⟨by rw [HP.out, Nat.add_sub_cancel, HO.out]; rfl, hb⟩

theorem rput_any (v : Nat) (id : Int) (hv : v < 18446744073709551616) (w : World) :
    Calls Try.prog 30 #[.int .u64 v, .int .i64 id] w fun e w' => e = .returned (.tuple #[.int .u64 (Se.putR v id).1, .int .i64 (Se.putR v id).2]) ∧ Below w.heap.size w w' := by
  by_cases h : 1 ≤ id ∧ id ≤ 64
  · obtain ⟨i, rfl⟩ := Int.eq_ofNat_of_zero_le (show 0 ≤ id by omega)
    have e : Se.putR v (i : Int) = (Se.put v i, 0) := by rw [Se.putR, if_pos h]; rfl
    rw [e]
    exact rput_in v i hv (by omega) (by omega) w
  · have e : Se.putR v id = (0, 1) := by rw [Se.putR, if_neg h]
    rw [e]
    exact rput_out v id (by omega) w
end Go.Proofs.Ytpodccgaigkalaa
