/- DigitsSizes: the walk. -/
import Derived.Test.YtedgcebcdcinhaaDigShown
import Derived.Test.YtedgcebcdcinhaaOpen
namespace Go.Proofs.Ytedgcebcdcinhaa
open Go.RowKit Go.ChangeShapes Go.WideShapes Go.ChangeAt
attribute [local go_sem] ba_zero w64_byte

theorem num_eq {n : Nat} {l : List UInt8} (h : Dg.num n = l) (hn : n < 18446744073709551616) (w : World) :
    Calls Try.prog 13 #[.int .u64 n] w fun e w' => e = .returned (tx l) ∧ Below w.heap.size w w' := by
  subst h
  exact num_any n hn w

set_option maxHeartbeats 1000000 in
theorem digitsSizes_core (n : Nat) (hn : n < 18446744073709551616) (W : World) :
    Calls Try.prog 10 #[.int .u64 n] W fun e W' => e = .returned (.bool true) ∧ Below W.heap.size W W' := by
  obtain ⟨l, hl⟩ : ∃ l, Dg.bytes n = l := ⟨_, rfl⟩
  have hn1 : Dg.num n = UInt8.ofNat l.length :: l := by rw [Dg.num, hl]
  have hlen : l.length ≤ 8 := by rw [← hl]; exact Dg.bytes_len n
  have hb : ((l.length : Int) % 256 == (l.length : Int)) = true := by rw [beq_iff_eq]; omega
  have HL := Lib.hid hl
  have HN := Lib.hid hn1
  clear hl hn1
  go_enter Try.func10, Try.ntmps10
  go_wp2_with fail
  refine (shown_any _).mono ?_
  rintro e w1 ⟨rfl, h1⟩
  go_wp2_with fail
  refine (num_eq HN.out hn _).mono ?_
  rintro e w2 ⟨rfl, h2⟩
  go_wp2_with fail
  go_loop [5, 6] (fun c x => ∃ (k m j : Nat), c = .int .i64 k ∧ x = .int .u64 m ∧ j ≤ 8 ∧ m < 256 ^ j ∧ l.length = k + (Dg.bytesF j m).length) (fun _ x => (intOf x).toNat)
  case atStart => exact ⟨0, n, 8, rfl, rfl, by omega, by omega, by rw [← HL.out, Dg.bytes]; omega⟩
  case round =>
    obtain ⟨k, m, j, rfl, rfl, hj, hm, hk⟩ := hrel
    by_cases h0 : 0 < m
    · obtain ⟨i, rfl⟩ : ∃ i, j = i + 1 := by
        rcases Nat.eq_zero_or_pos j with h | h
        · subst h; simp at hm; omega
        · exact ⟨j - 1, by omega⟩
      have h64 := Dg.pow_bound _ _ hj hm
      have hk' : l.length = k + 1 + (Dg.bytesF i (m / 256)).length := by rw [hk, Dg.bytesF_step _ _ (by omega)]; simp; omega
      have hm' : m / 256 < 256 ^ i := by rw [Nat.pow_succ] at hm; omega
      have hk8 : k ≤ 8 := by omega
      have HK := Lib.hid hk'
      have HM := Lib.hid hm'
      clear hk hk' hm hm'
      go_wp2
      go_round
      case rel => exact ⟨k + 1, m / 256, i, by go_num, rfl, by omega, HM.out, HK.out⟩
      case measure => simp [intOf]; omega
    · obtain rfl : m = 0 := by omega
      obtain rfl : k = l.length := by rw [Dg.bytesF_zero] at hk; simp at hk; omega
      clear hk hm
      go_wp2
      go_ret
      exact ⟨rfl, grow_trans h1 h2⟩

theorem digitsSizes_walk {H : Type} (enc : TypeId × Value → H) (W : World) (base : Nat) (v0 : Value) (d0 : DataW H) (p0 : List MemPlace)
    (h0 : DataW.Trod enc Try.prog W 0 (fun _ => true) true 22 v0 d0 p0) (o0 : Value.okWide Try.prog W .any base 22 v0)
    (_hsz : (DataW.weightsEach Try.prog [22] [d0]).all (· ≤ reachBytes) = true) :
    Calls Try.prog 10 #[v0] W fun e W' => e = .returned (.bool true) ∧ Below W.heap.size W W' := by
  obtain ⟨n, hn, rfl, rfl, rfl⟩ := open_u64 Try.underlying22 o0 h0
  exact digitsSizes_core n hn W
end Go.Proofs.Ytedgcebcdcinhaa
