/- The contract of the document's Less. -/
import Derived.Test.YtflmfbcjmjlkbaaDoorDigOrd
import Derived.Test.YtflmfbcjmjlkbaaDoorBase
namespace Dg
theorem less_drop (a b : List UInt8) (k : Nat) (ha : k < a.length) (hb : k < b.length) : less (a.drop k) (b.drop k) = if a[k] = b[k] then less (a.drop (k + 1)) (b.drop (k + 1)) else decide (a[k].toNat < b[k].toNat) := by
  rw [List.drop_eq_getElem_cons ha, List.drop_eq_getElem_cons hb, less]
theorem less_end (a b : List UInt8) (k : Nat) (hk1 : k ≤ a.length) (hk2 : k ≤ b.length) (h : k = a.length ∨ k = b.length) : less (a.drop k) (b.drop k) = decide (a.length < b.length) := by
  rcases h with h | h
  · subst h
    rw [List.drop_length]
    by_cases e : b.length = a.length
    · rw [List.drop_of_length_le (by omega)]; simp [less, e]
    · rw [List.drop_eq_getElem_cons (by omega), less]; symm; rw [decide_eq_true_iff]; omega
  · subst h
    rw [List.drop_length]
    by_cases e : a.length = b.length
    · rw [List.drop_of_length_le (by omega)]; simp [less, e]
    · rw [List.drop_eq_getElem_cons (by omega), less]; symm; rw [decide_eq_false_iff_not]; omega
end Dg
namespace Go.Proofs.YtflmfbcjmjlkbaaDoor
open Go.RowKit

set_option maxHeartbeats 1000000 in
theorem less_any (a b : List UInt8) (ha : a.length ≤ 140737488351232) (hb : b.length ≤ 140737488351232) (w : World) :
    Calls Tryd.prog 77 #[tx a, tx b] w fun e w' => e = .returned (.bool (Dg.less a b)) ∧ ∃ n, w' = w.drewN n := by
  go_enter Tryd.func77, Tryd.ntmps77
  go_wp2_with fail
  go_loopw [5] (fun i wr => ∃ k : Nat, i = .int .i64 k ∧ k ≤ a.length ∧ k ≤ b.length ∧ Dg.less a b = Dg.less (a.drop k) (b.drop k) ∧ ∃ n, wr = w.drewN n) (fun i _ => a.length - (intOf i).toNat)
  case atStart => exact ⟨0, rfl, by omega, by omega, rfl, 0, rfl⟩
  case round =>
    obtain ⟨k, rfl, hk1, hk2, hl, n, rfl⟩ := hrel
    by_cases h1 : k < a.length
    · by_cases h2 : k < b.length
      · rw [Dg.less_drop a b k h1 h2] at hl
        by_cases he : a[k] = b[k]
        · rw [if_pos he] at hl
          have he' : ((((ByteArray.mk a.toArray)[k]'h1).toNat : Int) != (((ByteArray.mk b.toArray)[k]'h2).toNat : Int)) = false := by
            rw [byte_at a k h1, byte_at b k h2, he]; simp
          have HL := Lib.hid hl
          clear hl he
          go_wp2
          go_quiet (fail)
          go_wp2
          go_roundw
          case rel => exact ⟨k + 1, by go_num, h1, h2, HL.out, _, rfl⟩
          case measure => simp [intOf]; omega
        · rw [if_neg he] at hl
          have he' : ((((ByteArray.mk a.toArray)[k]'h1).toNat : Int) != (((ByteArray.mk b.toArray)[k]'h2).toNat : Int)) = true := by
            rw [byte_at a k h1, byte_at b k h2, bne_iff_ne]
            intro e
            exact he (UInt8.toNat_inj.1 (by omega))
          have HL := Lib.hid hl
          clear hl he
          go_wp2
          go_quiet (fail)
          go_wp2
          go_quiet (fail)
          go_wp2
          go_ret
          exact ⟨by rw [HL.out]; rfl, drewN_ex (drewN_ex ⟨_, rfl⟩ _) _⟩
      · rw [Dg.less_end a b k hk1 hk2 (by omega)] at hl
        have HL := Lib.hid hl
        clear hl
        go_wp2
        go_ret
        exact ⟨by rw [HL.out]; rfl, _, rfl⟩
    · rw [Dg.less_end a b k hk1 hk2 (by omega)] at hl
      have HL := Lib.hid hl
      clear hl
      go_wp2
      go_ret
      exact ⟨by rw [HL.out]; rfl, _, rfl⟩
end Go.Proofs.YtflmfbcjmjlkbaaDoor
