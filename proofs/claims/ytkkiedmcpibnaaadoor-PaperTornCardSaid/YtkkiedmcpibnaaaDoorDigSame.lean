/- The contract of the document's Same. -/
import Derived.Test.YtkkiedmcpibnaaaDoorTxs
namespace Go.Proofs.YtkkiedmcpibnaaaDoor
open Go.RowKit

set_option maxHeartbeats 1000000 in
theorem same_apart (va vb : Value) (a b : List (List UInt8)) (w : World) (ha : TxAt w va a) (hb : TxAt w vb b) (hl : a.length ≠ b.length) :
    Calls Tryd.prog 14 #[va, vb] w fun e w' => e = .returned (.bool (a == b)) ∧ ∃ n, w' = w.drewN n := by
  obtain ⟨aa, ca, rfl⟩ := ha.len
  obtain ⟨ab, cb, rfl⟩ := hb.len
  have hne : ((a.length : Int) != (b.length : Int)) = true := by rw [bne_iff_ne]; omega
  have hf : (a == b) = false := by rw [beq_eq_false_iff_ne]; intro e; exact hl (by rw [e])
  have HF := Lib.hid hf
  clear ha hb hl hf
  go_enter Tryd.func14, Tryd.ntmps14
  go_wp2
  go_ret
  exact ⟨by rw [HF.out]; rfl, 0, rfl⟩

set_option maxHeartbeats 1000000 in
theorem same_empty (a b : Option Addr) (ca cb : Nat) (w : World) :
    Calls Tryd.prog 14 #[.slice a 0 ca, .slice b 0 cb] w fun e w' => e = .returned (.bool true) ∧ ∃ n, w' = w.drewN n := by
  go_enter Tryd.func14, Tryd.ntmps14
  go_wp2_with fail
  refine wp_loop_rounds 1 ?_
  rw [rounds_succ]
  go_wp2
  go_ret
  exact ⟨rfl, 0, rfl⟩

set_option maxHeartbeats 1000000 in
theorem same_some (ba oa ca bb ob cb n : Nat) (a b : List (List UInt8)) (hla : a.length = n) (hlb : b.length = n) (w : World)
    (ha : ∀ i (h : i < a.length), w.cell? ⟨ba, oa + i, none⟩ = some (tx a[i])) (hb : ∀ i (h : i < b.length), w.cell? ⟨bb, ob + i, none⟩ = some (tx b[i])) (ln : n ≤ 140737488351232) :
    Calls Tryd.prog 14 #[.slice (some ⟨ba, oa, none⟩) n ca, .slice (some ⟨bb, ob, none⟩) n cb] w fun e w' => e = .returned (.bool (a == b)) ∧ ∃ n, w' = w.drewN n := by
  have HA := Lib.hid ha
  have HB := Lib.hid hb
  have LA := Lib.hid hla
  have LB := Lib.hid hlb
  clear ha hb hla hlb
  go_enter Tryd.func14, Tryd.ntmps14
  go_wp2_with fail
  go_loopw [5] (fun i wr => ∃ k : Nat, i = .int .i64 k ∧ k ≤ n ∧ a.take k = b.take k ∧ ∃ q, wr = w.drewN q) (fun i _ => n - (intOf i).toNat)
  case atStart => exact ⟨0, rfl, by omega, by simp, 0, rfl⟩
  case round =>
    obtain ⟨k, rfl, hk, ht, q, rfl⟩ := hrel
    have HT := Lib.hid ht
    clear ht
    by_cases hlt : k < n
    · have hka : k < a.length := by rw [LA.out]; exact hlt
      have hkb : k < b.length := by rw [LB.out]; exact hlt
      have ca := HA.out k hka
      have cb := HB.out k hkb
      by_cases he : a[k] = b[k]
      · have HE := Lib.hid he
        have hx : (a[k] == b[k]) = true := by rw [he]; simp
        clear he
        go_wp2
        go_quiet (fail)
        go_wp2
        go_roundw
        case rel => exact ⟨k + 1, by go_num, hlt, by rw [List.take_succ_eq_append_getElem hka, List.take_succ_eq_append_getElem hkb, HT.out, HE.out], _, rfl⟩
        case measure => simp [intOf]; omega
      · have hx : (a[k] == b[k]) = false := by rw [beq_eq_false_iff_ne]; exact he
        have hf : (a == b) = false := by
          rw [beq_eq_false_iff_ne]
          intro e
          subst e
          exact he rfl
        have HF := Lib.hid hf
        clear he hf
        go_wp2
        go_quiet (fail)
        go_wp2
        go_ret
        exact ⟨by rw [HF.out]; rfl, drewN_ex ⟨_, rfl⟩ _⟩
    · obtain rfl : k = n := by omega
      have hf : (a == b) = true := by
        rw [beq_iff_eq]
        have e := HT.out
        rwa [List.take_of_length_le (by rw [LA.out]; omega), List.take_of_length_le (by rw [LB.out]; omega)] at e
      have HF := Lib.hid hf
      clear hf
      go_wp2
      go_ret
      exact ⟨by rw [HF.out]; rfl, _, rfl⟩

theorem same_any (va vb : Value) (a b : List (List UInt8)) (w : World) (ha : TxAt w va a) (hb : TxAt w vb b) (la : a.length ≤ 140737488351232) :
    Calls Tryd.prog 14 #[va, vb] w fun e w' => e = .returned (.bool (a == b)) ∧ ∃ n, w' = w.drewN n := by
  by_cases hl : a.length = b.length
  · by_cases h0 : a.length = 0
    · obtain ⟨aa, ca, rfl⟩ := ha.len
      obtain ⟨ab, cb, rfl⟩ := hb.len
      obtain rfl := List.length_eq_zero_iff.1 h0
      obtain rfl := List.length_eq_zero_iff.1 (show b.length = 0 by rw [← hl]; rfl)
      exact same_empty _ _ _ _ w
    · rcases ha with ⟨_, _, _, rfl⟩ | ⟨ba, oa, ca, rfl, hca⟩
      · exact absurd rfl h0
      rcases hb with ⟨_, _, _, rfl⟩ | ⟨bb, ob, cb, rfl, hcb⟩
      · exact absurd hl h0
      rw [← hl]
      exact same_some ba oa ca bb ob cb a.length a b rfl hl.symm w hca hcb la
  · exact same_apart va vb a b w ha hb hl
end Go.Proofs.YtkkiedmcpibnaaaDoor
