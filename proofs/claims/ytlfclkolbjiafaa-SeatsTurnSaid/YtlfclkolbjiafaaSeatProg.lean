/- Package seats as it landed: committees. -/
import Derived.Test.YtlfclkolbjiafaaSeatGoL
namespace Go.Proofs.Ytlfclkolbjiafaa
open Go.RowKit

set_option maxHeartbeats 1000000 in
theorem pmay_any (n : Int) (h1 : -9223372036854775808 ≤ n) (h2 : n ≤ 9223372036854775807) (w : World) :
    Calls Try.prog 12 #[.int .i64 n] w fun e w' => e = .returned (.bool (Se.may n)) ∧ w = w' := by
  by_cases hb : 4 ≤ n
  · have t1 : decide (4 ≤ n) = true := by simpa using hb
    by_cases hc : n ≤ 64
    · have t2 : decide (n ≤ 64) = true := by simpa using hc
      have hm : Se.may n = (n % 3 == 1) := by
        unfold Se.may
        rw [Bool.eq_iff_iff]
        simp only [Bool.and_eq_true, decide_eq_true_iff, beq_iff_eq]
        omega
      have HM := Lib.hid hm
      clear hm
      go_enter Try.func12, Try.ntmps12
      go_wp2
      go_ret
      exact ⟨by rw [HM.out]; rfl, rfl⟩
    · have hm : Se.may n = false := by simp [Se.may]; omega
      have t2 : decide (n ≤ 64) = false := by simpa using hc
      have HM := Lib.hid hm
      clear hm hb hc
      go_enter Try.func12, Try.ntmps12
      go_wp2
      go_ret
      exact ⟨by rw [HM.out]; rfl, rfl⟩
  · have hm : Se.may n = false := by simp [Se.may]; omega
    have t1 : decide (4 ≤ n) = false := by simpa using hb
    have HM := Lib.hid hm
    clear hm hb
    go_enter Try.func12, Try.ntmps12
    go_wp2
    go_ret
    exact ⟨by rw [HM.out]; rfl, rfl⟩

theorem pmay_eq {n : Int} {b : Bool} (h : Se.may n = b) (h1 : -9223372036854775808 ≤ n) (h2 : n ≤ 9223372036854775807) (w : World) :
    Calls Try.prog 12 #[.int .i64 n] w fun e w' => e = .returned (.bool b) ∧ w = w' := by subst h; exact pmay_any n h1 h2 w

set_option maxHeartbeats 1000000 in
theorem pfaults_any (n : Int) (h1 : -9223372036854775808 ≤ n) (h2 : n ≤ 9223372036854775807) (w : World) :
    Calls Try.prog 14 #[.int .i64 n] w fun e w' => e = .returned (.int .i64 (Se.faults n)) ∧ w = w' := by
  cases hm : Se.may n with
  | true =>
    have hr := may_range hm
    have hf : Se.faults n = (n - 1) / 3 := by rw [Se.faults, if_pos hm]
    have HM := Lib.hid hm
    have HF := Lib.hid hf
    obtain ⟨r1, r2, _⟩ := hr
    clear hm hf
    go_enter Try.func14, Try.ntmps14
    go_wp2_with fail
    refine (pmay_eq HM.out h1 h2 _).mono ?_
    rintro e w1 ⟨rfl, rfl⟩
    go_wp2
    go_ret
    exact ⟨by rw [HF.out]; rfl, rfl⟩
  | false =>
    have hf : Se.faults n = 0 := by rw [Se.faults, hm]; rfl
    have HM := Lib.hid hm
    have HF := Lib.hid hf
    clear hm hf
    go_enter Try.func14, Try.ntmps14
    go_wp2_with fail
    refine (pmay_eq HM.out h1 h2 _).mono ?_
    rintro e w1 ⟨rfl, rfl⟩
    go_wp2
    go_ret
    exact ⟨by rw [HF.out]; rfl, rfl⟩
theorem pfaults_eq {n m : Int} (h : Se.faults n = m) (h1 : -9223372036854775808 ≤ n) (h2 : n ≤ 9223372036854775807) (w : World) :
    Calls Try.prog 14 #[.int .i64 n] w fun e w' => e = .returned (.int .i64 m) ∧ w = w' := by subst h; exact pfaults_any n h1 h2 w
set_option maxHeartbeats 1000000 in
theorem pquorum_any (n : Int) (h1 : -9223372036854775808 ≤ n) (h2 : n ≤ 9223372036854775807) (w : World) :
    Calls Try.prog 16 #[.int .i64 n] w fun e w' => e = .returned (.int .i64 (Se.quorum n)) ∧ w = w' := by
  cases hm : Se.may n with
  | true =>
    have hr := may_range hm
    have hf : Se.quorum n = n - (n - 1) / 3 := by rw [Se.quorum, if_pos hm]
    have hg : Se.faults n = (n - 1) / 3 := by rw [Se.faults, if_pos hm]
    have HM := Lib.hid hm
    have HF := Lib.hid hf
    have HG := Lib.hid hg
    obtain ⟨r1, r2, _⟩ := hr
    clear hm hf hg
    go_enter Try.func16, Try.ntmps16
    go_wp2_with fail
    refine (pmay_eq HM.out h1 h2 _).mono ?_
    rintro e w1 ⟨rfl, rfl⟩
    go_wp2_with fail
    refine (pfaults_eq HG.out h1 h2 _).mono ?_
    rintro e w1 ⟨rfl, rfl⟩
    go_wp2
    go_ret
    exact ⟨by rw [HF.out]; rfl, rfl⟩
  | false =>
    have hf : Se.quorum n = 0 := by rw [Se.quorum, hm]; rfl
    have HM := Lib.hid hm
    have HF := Lib.hid hf
    clear hm hf
    go_enter Try.func16, Try.ntmps16
    go_wp2_with fail
    refine (pmay_eq HM.out h1 h2 _).mono ?_
    rintro e w1 ⟨rfl, rfl⟩
    go_wp2
    go_ret
    exact ⟨by rw [HF.out]; rfl, rfl⟩
set_option maxHeartbeats 1000000 in
theorem pweak_any (n : Int) (h1 : -9223372036854775808 ≤ n) (h2 : n ≤ 9223372036854775807) (w : World) :
    Calls Try.prog 18 #[.int .i64 n] w fun e w' => e = .returned (.int .i64 (Se.weak n)) ∧ w = w' := by
  cases hm : Se.may n with
  | true =>
    have hr := may_range hm
    have hf : Se.weak n = (n - 1) / 3 + 1 := by rw [Se.weak, if_pos hm]
    have hg : Se.faults n = (n - 1) / 3 := by rw [Se.faults, if_pos hm]
    have HM := Lib.hid hm
    have HF := Lib.hid hf
    have HG := Lib.hid hg
    obtain ⟨r1, r2, _⟩ := hr
    clear hm hf hg
    go_enter Try.func18, Try.ntmps18
    go_wp2_with fail
    refine (pmay_eq HM.out h1 h2 _).mono ?_
    rintro e w1 ⟨rfl, rfl⟩
    go_wp2_with fail
    refine (pfaults_eq HG.out h1 h2 _).mono ?_
    rintro e w1 ⟨rfl, rfl⟩
    go_wp2
    go_ret
    exact ⟨by rw [HF.out]; rfl, rfl⟩
  | false =>
    have hf : Se.weak n = 0 := by rw [Se.weak, hm]; rfl
    have HM := Lib.hid hm
    have HF := Lib.hid hf
    clear hm hf
    go_enter Try.func18, Try.ntmps18
    go_wp2_with fail
    refine (pmay_eq HM.out h1 h2 _).mono ?_
    rintro e w1 ⟨rfl, rfl⟩
    go_wp2
    go_ret
    exact ⟨by rw [HF.out]; rfl, rfl⟩
end Go.Proofs.Ytlfclkolbjiafaa
