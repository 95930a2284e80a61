/- The contracts of the document's Num and Text. -/
import Derived.Test.YtkkiedmcpibnaaaDoorDigText
namespace Go.Proofs.YtkkiedmcpibnaaaDoor
open Go.RowKit
attribute [local go_sem] ByteArray.mk_append_mk

set_option maxHeartbeats 1000000 in
theorem rnum_any (n : Nat) (hn : n < 18446744073709551616) (w : World) :
    Calls Tryd.prog 38 #[.int .u64 n] w fun e w' => e = .returned (tx (Dg.num n)) ∧ Below w.heap.size w w' := by
  go_enter Tryd.func38, Tryd.ntmps38
  go_wp2_with fail
  go_loopw [0, 3] (fun v s wr => ∃ (m k : Nat) (l : List UInt8), v = .int .u64 m ∧ s = tx l ∧ k ≤ 8 ∧ m < 256 ^ k ∧ l.length ≤ 8 - k ∧ Dg.bytes n = Dg.bytesF k m ++ l ∧ Below w.heap.size w wr) (fun v _ _ => (intOf v).toNat)
  case atStart => exact ⟨n, 8, [], rfl, rfl, by omega, by omega, by simp, by simp [Dg.bytes], Below.refl _ _⟩
  case round =>
    obtain ⟨m, k, l, rfl, rfl, hk, hm, hl, hb, hbel⟩ := hrel
    by_cases h0 : 0 < m
    · obtain ⟨j, rfl⟩ : ∃ j, k = j + 1 := by
        rcases Nat.eq_zero_or_pos k with h | h
        · subst h; simp at hm; omega
        · exact ⟨k - 1, by omega⟩
      have hc := conv_one wr (UInt8.ofNat (m % 256)) 5 1 ((m : Int) % 256) (by simp)
      have h64 := Dg.pow_bound _ _ hk hm
      have hb' : Dg.bytes n = Dg.bytesF j (m / 256) ++ (UInt8.ofNat (m % 256) :: l) := by rw [hb, Dg.bytesF_step _ _ (by omega)]; simp
      have hm' : m / 256 < 256 ^ j := by rw [Nat.pow_succ] at hm; omega
      have HB := Lib.hid hb'
      have HM := Lib.hid hm'
      clear hb hm hb' hm'
      go_wp2
      go_roundw
      case rel => exact ⟨m / 256, j, _, rfl, rfl, by omega, HM.out, by simp; omega, HB.out, hbel.alloc hbel.size _⟩
      case measure => simp [intOf]; omega
    · obtain rfl : m = 0 := by omega
      have hb' : Dg.bytes n = l := by rw [hb, Dg.bytesF_zero]; rfl
      have hn' : tx (UInt8.ofNat l.length :: l) = tx (Dg.num n) := by rw [Dg.num, hb']
      have hc := conv_one wr (UInt8.ofNat l.length) 5 1 ((l.length : Int)) (by simp [UInt8.toNat_ofNat']; omega)
      have HN := Lib.hid hn'
      clear hb hb' hm hn'
      go_wp2
      go_ret
      exact ⟨congrArg Ending.returned HN.out, hbel.alloc hbel.size _⟩

set_option maxHeartbeats 1000000 in
theorem rtext_any (l : List UInt8) (hl : l.length ≤ 140737488351232) (w : World) :
    Calls Tryd.prog 29 #[tx l] w fun e w' => e = .returned (tx (Dg.num l.length ++ l)) ∧ Below w.heap.size w w' := by
  have hn := Dg.num_len l.length
  go_enter Tryd.func29, Tryd.ntmps29
  go_wp2_with (go_at_call 38; refine (rnum_any _ (by omega) _).mono ?_; rintro e w' ⟨rfl, hb⟩)
  go_ret
  exact ⟨rfl, hb⟩
end Go.Proofs.YtkkiedmcpibnaaaDoor
