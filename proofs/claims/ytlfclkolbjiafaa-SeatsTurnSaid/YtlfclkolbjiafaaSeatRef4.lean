/- The contracts of the document's answer of layer 5, the rest: Ints, May, Faults, Quorum, Weak. -/
import Derived.Test.YtlfclkolbjiafaaSeatRef3
namespace Go.Proofs.Ytlfclkolbjiafaa
open Go.RowKit

set_option maxHeartbeats 1000000 in
theorem rmay_any (n : Int) (h1 : -9223372036854775808 ≤ n) (h2 : n ≤ 9223372036854775807) (w : World) :
    Calls Try.prog 13 #[.int .i64 n] w fun e w' => e = .returned (.bool (Se.may n)) ∧ w = w' := by
  by_cases ha : n = 4
  · subst ha
    go_enter Try.func13, Try.ntmps13
    go_wp2
    go_ret
    exact ⟨rfl, rfl⟩
  have h4 : (n == 4) = false := by rw [beq_eq_false_iff_ne]; exact ha
  by_cases hb : 4 < n
  · by_cases hc : n ≤ 64
    · have hm : Se.may n = ((n - 1) % 3 == 0) := by
        unfold Se.may
        rw [Bool.eq_iff_iff]
        simp only [Bool.and_eq_true, decide_eq_true_iff, beq_iff_eq]
        omega
      have HM := Lib.hid hm
      clear hm ha
      go_enter Try.func13, Try.ntmps13
      go_wp2
      go_ret
      exact ⟨by rw [HM.out]; rfl, rfl⟩
    · have hm : Se.may n = false := by simp [Se.may]; omega
      have hc' : 64 < n := by omega
      have HM := Lib.hid hm
      clear hm ha hc
      go_enter Try.func13, Try.ntmps13
      go_wp2
      go_ret
      exact ⟨by rw [HM.out]; rfl, rfl⟩
  · have hm : Se.may n = false := by simp [Se.may]; omega
    have HM := Lib.hid hm
    clear hm ha
    go_enter Try.func13, Try.ntmps13
    go_wp2
    go_ret
    exact ⟨by rw [HM.out]; rfl, rfl⟩

theorem rmay_eq {n : Int} {b : Bool} (h : Se.may n = b) (h1 : -9223372036854775808 ≤ n) (h2 : n ≤ 9223372036854775807) (w : World) :
    Calls Try.prog 13 #[.int .i64 n] w fun e w' => e = .returned (.bool b) ∧ w = w' := by subst h; exact rmay_any n h1 h2 w
theorem may_range {n : Int} (h : Se.may n = true) : 4 ≤ n ∧ n ≤ 64 ∧ n % 3 = 1 := by
  simp only [Se.may, Bool.and_eq_true, decide_eq_true_iff] at h
  omega

set_option maxHeartbeats 1000000 in
theorem rfaults_any (n : Int) (h1 : -9223372036854775808 ≤ n) (h2 : n ≤ 9223372036854775807) (w : World) :
    Calls Try.prog 15 #[.int .i64 n] w fun e w' => e = .returned (.int .i64 (Se.faults n)) ∧ w = w' := by
  cases hm : Se.may n with
  | true =>
    have hr := may_range hm
    have hf : Se.faults n = (n - 1) / 3 := by rw [Se.faults, if_pos hm]
    have HM := Lib.hid hm
    have HF := Lib.hid hf
    obtain ⟨r1, r2, _⟩ := hr
    clear hm hf
    go_enter Try.func15, Try.ntmps15
    go_wp2_with fail
    refine (rmay_eq HM.out h1 h2 _).mono ?_
    rintro e w1 ⟨rfl, rfl⟩
    go_wp2
    go_ret
    exact ⟨by rw [HF.out]; rfl, rfl⟩
  | false =>
    have hf : Se.faults n = 0 := by rw [Se.faults, hm]; rfl
    have HM := Lib.hid hm
    have HF := Lib.hid hf
    clear hm hf
    go_enter Try.func15, Try.ntmps15
    go_wp2_with fail
    refine (rmay_eq HM.out h1 h2 _).mono ?_
    rintro e w1 ⟨rfl, rfl⟩
    go_wp2
    go_ret
    exact ⟨by rw [HF.out]; rfl, rfl⟩
set_option maxHeartbeats 1000000 in
theorem rquorum_any (n : Int) (h1 : -9223372036854775808 ≤ n) (h2 : n ≤ 9223372036854775807) (w : World) :
    Calls Try.prog 17 #[.int .i64 n] w fun e w' => e = .returned (.int .i64 (Se.quorum n)) ∧ w = w' := by
  cases hm : Se.may n with
  | true =>
    have hr := may_range hm
    have hf : Se.quorum n = n - (n - 1) / 3 := by rw [Se.quorum, if_pos hm]
    have HM := Lib.hid hm
    have HF := Lib.hid hf
    obtain ⟨r1, r2, _⟩ := hr
    clear hm hf
    go_enter Try.func17, Try.ntmps17
    go_wp2_with fail
    refine (rmay_eq HM.out h1 h2 _).mono ?_
    rintro e w1 ⟨rfl, rfl⟩
    go_wp2
    go_ret
    exact ⟨by rw [HF.out]; rfl, rfl⟩
  | false =>
    have hf : Se.quorum n = 0 := by rw [Se.quorum, hm]; rfl
    have HM := Lib.hid hm
    have HF := Lib.hid hf
    clear hm hf
    go_enter Try.func17, Try.ntmps17
    go_wp2_with fail
    refine (rmay_eq HM.out h1 h2 _).mono ?_
    rintro e w1 ⟨rfl, rfl⟩
    go_wp2
    go_ret
    exact ⟨by rw [HF.out]; rfl, rfl⟩
set_option maxHeartbeats 1000000 in
theorem rweak_any (n : Int) (h1 : -9223372036854775808 ≤ n) (h2 : n ≤ 9223372036854775807) (w : World) :
    Calls Try.prog 19 #[.int .i64 n] w fun e w' => e = .returned (.int .i64 (Se.weak n)) ∧ w = w' := by
  cases hm : Se.may n with
  | true =>
    have hr := may_range hm
    have hf : Se.weak n = (n - 1) / 3 + 1 := by rw [Se.weak, if_pos hm]
    have HM := Lib.hid hm
    have HF := Lib.hid hf
    obtain ⟨r1, r2, _⟩ := hr
    clear hm hf
    go_enter Try.func19, Try.ntmps19
    go_wp2_with fail
    refine (rmay_eq HM.out h1 h2 _).mono ?_
    rintro e w1 ⟨rfl, rfl⟩
    go_wp2
    go_ret
    exact ⟨by rw [HF.out]; rfl, rfl⟩
  | false =>
    have hf : Se.weak n = 0 := by rw [Se.weak, hm]; rfl
    have HM := Lib.hid hm
    have HF := Lib.hid hf
    clear hm hf
    go_enter Try.func19, Try.ntmps19
    go_wp2_with fail
    refine (rmay_eq HM.out h1 h2 _).mono ?_
    rintro e w1 ⟨rfl, rfl⟩
    go_wp2
    go_ret
    exact ⟨by rw [HF.out]; rfl, rfl⟩

set_option maxHeartbeats 1000000 in
theorem rints_any (va vb : Value) (a b : List Int) (w : World) (ha : FlatAt w va 1 (ints a)) (hb : FlatAt w vb 1 (ints b)) (la : a.length ≤ 140737488351232) :
    Calls Try.prog 24 #[va, vb] w fun e w' => e = .returned (.bool (a == b)) ∧ ∃ n, w' = w.drewN n := by
  by_cases hl : a.length = b.length
  · rcases flat_ints ha (Below.refl _ _) with ⟨rfl, aa, ca, rfl⟩ | ⟨h0, ba, oa, ca, rfl, hca⟩
    · obtain rfl : b = [] := List.length_eq_zero_iff.1 (by rw [← hl]; rfl)
      obtain ⟨ab, cb, rfl⟩ := hb.len (n := 0) (by simp [ints]) (by omega)
      go_enter Try.func24, Try.ntmps24
      go_wp2_with fail
      refine wp_loop_rounds 1 ?_
      rw [rounds_succ]
      go_wp2
      go_ret
      exact ⟨rfl, 0, rfl⟩
    · rcases flat_ints hb (Below.refl _ _) with ⟨rfl, _⟩ | ⟨_, bb, ob, cb, rfl, hcb⟩
      · rw [hl] at h0; simp at h0
      rw [← hl]
      obtain ⟨n, hn⟩ : ∃ n, a.length = n := ⟨_, rfl⟩
      have HA := Lib.hid hca
      have HB := Lib.hid hcb
      have HN := Lib.hid hn
      have HL := Lib.hid hl
      rw [hn] at la ⊢
      clear hca hcb hn hl h0 ha hb
      go_enter Try.func24, Try.ntmps24
      go_wp2_with fail
      go_loopw [5] (fun i wr => ∃ k : Nat, i = .int .i64 k ∧ k ≤ n ∧ a.take k = b.take k ∧ ∃ q, wr = w.drewN q) (fun i _ => n - (intOf i).toNat)
      case atStart => exact ⟨0, rfl, by omega, by simp, 0, rfl⟩
      case round =>
        obtain ⟨k, rfl, hk, ht, q, rfl⟩ := hrel
        have HT := Lib.hid ht
        clear ht
        by_cases hlt : k < n
        · have hka : k < a.length := by rw [HN.out]; exact hlt
          have hkb : k < b.length := by rw [← HL.out]; exact hka
          have ca := HA.out k hka
          have cb := HB.out k hkb
          simp only [iv] at ca cb
          by_cases he : a[k] = b[k]
          · have HE := Lib.hid he
            have hx : (a[k] != b[k]) = false := by rw [he]; simp
            clear he
            go_wp2
            go_quiet (fail)
            go_wp2
            go_roundw
            case rel => exact ⟨k + 1, by go_num, hlt, by rw [List.take_succ_eq_append_getElem hka, List.take_succ_eq_append_getElem hkb, HT.out, HE.out], _, rfl⟩
            case measure => simp [intOf]; omega
          · have hx : (a[k] != b[k]) = true := by rw [bne_iff_ne]; exact he
            have hf : (a == b) = false := by
              rw [beq_eq_false_iff_ne]
              intro e
              subst e
              exact he rfl
            have HF := Lib.hid hf
            clear he hf
            go_wp2
            go_quiet (fail)
            go_wp2
            go_ret
            exact ⟨by rw [HF.out]; rfl, drewN_ex ⟨_, rfl⟩ _⟩
        · obtain rfl : k = n := by omega
          have hf : (a == b) = true := by
            rw [beq_iff_eq]
            have e := HT.out
            have e1 := HN.out
            have e2 := HL.out
            rwa [List.take_of_length_le (by omega), List.take_of_length_le (by omega)] at e
          have HF := Lib.hid hf
          clear hf
          go_wp2
          go_ret
          exact ⟨by rw [HF.out]; rfl, _, rfl⟩
  · obtain ⟨aa, ca, rfl⟩ := ha.len (n := a.length) (ints_len a) (by omega)
    obtain ⟨ab, cb, rfl⟩ := hb.len (n := b.length) (ints_len b) (by omega)
    have hne : ((a.length : Int) != (b.length : Int)) = true := by rw [bne_iff_ne]; omega
    have hf : (a == b) = false := by rw [beq_eq_false_iff_ne]; intro e; exact hl (by rw [e])
    have HF := Lib.hid hf
    clear ha hb hl hf
    go_enter Try.func24, Try.ntmps24
    go_wp2
    go_ret
    exact ⟨by rw [HF.out]; rfl, 0, rfl⟩
end Go.Proofs.Ytlfclkolbjiafaa
