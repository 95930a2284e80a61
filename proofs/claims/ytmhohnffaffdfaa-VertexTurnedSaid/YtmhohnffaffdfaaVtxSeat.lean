/- Committees, as the program and the document have them. -/
import Derived.Test.YtmhohnffaffdfaaBase
import Derived.Test.YtmhohnffaffdfaaSeatMath
namespace Go.Proofs.Ytmhohnffaffdfaa
open Go.RowKit

set_option maxHeartbeats 1000000 in
theorem rmay_any (n : Int) (h1 : -9223372036854775808 ≤ n) (h2 : n ≤ 9223372036854775807) (w : World) :
    Calls Try.prog 38 #[.int .i64 n] w fun e w' => e = .returned (.bool (Se.may n)) ∧ w = w' := by
  by_cases ha : n = 4
  · subst ha
    go_enter Try.func38, Try.ntmps38
    go_wp2
    go_ret
    exact ⟨rfl, rfl⟩
  have h4 : (n == 4) = false := by rw [beq_eq_false_iff_ne]; exact ha
  by_cases hb : 4 < n
  · by_cases hc : n ≤ 64
    · have hm : Se.may n = ((n - 1) % 3 == 0) := by
        unfold Se.may
        rw [Bool.eq_iff_iff]
        simp only [Bool.and_eq_true, decide_eq_true_iff, beq_iff_eq]
        omega
      have HM := Lib.hid hm
      clear hm ha
      go_enter Try.func38, Try.ntmps38
      go_wp2
      go_ret
      exact ⟨by rw [HM.out]; rfl, rfl⟩
    · have hm : Se.may n = false := by simp [Se.may]; omega
      have hc' : 64 < n := by omega
      have HM := Lib.hid hm
      clear hm ha hc
      go_enter Try.func38, Try.ntmps38
      go_wp2
      go_ret
      exact ⟨by rw [HM.out]; rfl, rfl⟩
  · have hm : Se.may n = false := by simp [Se.may]; omega
    have HM := Lib.hid hm
    clear hm ha
    go_enter Try.func38, Try.ntmps38
    go_wp2
    go_ret
    exact ⟨by rw [HM.out]; rfl, rfl⟩

theorem rmay_eq {n : Int} {b : Bool} (h : Se.may n = b) (h1 : -9223372036854775808 ≤ n) (h2 : n ≤ 9223372036854775807) (w : World) :
    Calls Try.prog 38 #[.int .i64 n] w fun e w' => e = .returned (.bool b) ∧ w = w' := by subst h; exact rmay_any n h1 h2 w
theorem may_range {n : Int} (h : Se.may n = true) : 4 ≤ n ∧ n ≤ 64 ∧ n % 3 = 1 := by
  simp only [Se.may, Bool.and_eq_true, decide_eq_true_iff] at h
  omega

set_option maxHeartbeats 1000000 in
theorem rquorum_any (n : Int) (h1 : -9223372036854775808 ≤ n) (h2 : n ≤ 9223372036854775807) (w : World) :
    Calls Try.prog 39 #[.int .i64 n] w fun e w' => e = .returned (.int .i64 (Se.quorum n)) ∧ w = w' := by
  cases hm : Se.may n with
  | true =>
    have hr := may_range hm
    have hf : Se.quorum n = n - (n - 1) / 3 := by rw [Se.quorum, if_pos hm]
    have HM := Lib.hid hm
    have HF := Lib.hid hf
    obtain ⟨r1, r2, _⟩ := hr
    clear hm hf
    go_enter Try.func39, Try.ntmps39
    go_wp2_with fail
    refine (rmay_eq HM.out h1 h2 _).mono ?_
    rintro e w1 ⟨rfl, rfl⟩
    go_wp2
    go_ret
    exact ⟨by rw [HF.out]; rfl, rfl⟩
  | false =>
    have hf : Se.quorum n = 0 := by rw [Se.quorum, hm]; rfl
    have HM := Lib.hid hm
    have HF := Lib.hid hf
    clear hm hf
    go_enter Try.func39, Try.ntmps39
    go_wp2_with fail
    refine (rmay_eq HM.out h1 h2 _).mono ?_
    rintro e w1 ⟨rfl, rfl⟩
    go_wp2
    go_ret
    exact ⟨by rw [HF.out]; rfl, rfl⟩
set_option maxHeartbeats 1000000 in
theorem pmay_any (n : Int) (h1 : -9223372036854775808 ≤ n) (h2 : n ≤ 9223372036854775807) (w : World) :
    Calls Try.prog 27 #[.int .i64 n] w fun e w' => e = .returned (.bool (Se.may n)) ∧ w = w' := by
  by_cases hb : 4 ≤ n
  · have t1 : decide (4 ≤ n) = true := by simpa using hb
    by_cases hc : n ≤ 64
    · have t2 : decide (n ≤ 64) = true := by simpa using hc
      have hm : Se.may n = (n % 3 == 1) := by
        unfold Se.may
        rw [Bool.eq_iff_iff]
        simp only [Bool.and_eq_true, decide_eq_true_iff, beq_iff_eq]
        omega
      have HM := Lib.hid hm
      clear hm
      go_enter Try.func27, Try.ntmps27
      go_wp2
      go_ret
      exact ⟨by rw [HM.out]; rfl, rfl⟩
    · have hm : Se.may n = false := by simp [Se.may]; omega
      have t2 : decide (n ≤ 64) = false := by simpa using hc
      have HM := Lib.hid hm
      clear hm hb hc
      go_enter Try.func27, Try.ntmps27
      go_wp2
      go_ret
      exact ⟨by rw [HM.out]; rfl, rfl⟩
  · have hm : Se.may n = false := by simp [Se.may]; omega
    have t1 : decide (4 ≤ n) = false := by simpa using hb
    have HM := Lib.hid hm
    clear hm hb
    go_enter Try.func27, Try.ntmps27
    go_wp2
    go_ret
    exact ⟨by rw [HM.out]; rfl, rfl⟩

theorem pmay_eq {n : Int} {b : Bool} (h : Se.may n = b) (h1 : -9223372036854775808 ≤ n) (h2 : n ≤ 9223372036854775807) (w : World) :
    Calls Try.prog 27 #[.int .i64 n] w fun e w' => e = .returned (.bool b) ∧ w = w' := by subst h; exact pmay_any n h1 h2 w

set_option maxHeartbeats 1000000 in
theorem pfaults_any (n : Int) (h1 : -9223372036854775808 ≤ n) (h2 : n ≤ 9223372036854775807) (w : World) :
    Calls Try.prog 61 #[.int .i64 n] w fun e w' => e = .returned (.int .i64 (Se.faults n)) ∧ w = w' := by
  cases hm : Se.may n with
  | true =>
    have hr := may_range hm
    have hf : Se.faults n = (n - 1) / 3 := by rw [Se.faults, if_pos hm]
    have HM := Lib.hid hm
    have HF := Lib.hid hf
    obtain ⟨r1, r2, _⟩ := hr
    clear hm hf
    go_enter Try.func61, Try.ntmps61
    go_wp2_with fail
    refine (pmay_eq HM.out h1 h2 _).mono ?_
    rintro e w1 ⟨rfl, rfl⟩
    go_wp2
    go_ret
    exact ⟨by rw [HF.out]; rfl, rfl⟩
  | false =>
    have hf : Se.faults n = 0 := by rw [Se.faults, hm]; rfl
    have HM := Lib.hid hm
    have HF := Lib.hid hf
    clear hm hf
    go_enter Try.func61, Try.ntmps61
    go_wp2_with fail
    refine (pmay_eq HM.out h1 h2 _).mono ?_
    rintro e w1 ⟨rfl, rfl⟩
    go_wp2
    go_ret
    exact ⟨by rw [HF.out]; rfl, rfl⟩
theorem pfaults_eq {n m : Int} (h : Se.faults n = m) (h1 : -9223372036854775808 ≤ n) (h2 : n ≤ 9223372036854775807) (w : World) :
    Calls Try.prog 61 #[.int .i64 n] w fun e w' => e = .returned (.int .i64 m) ∧ w = w' := by subst h; exact pfaults_any n h1 h2 w
set_option maxHeartbeats 1000000 in
theorem pquorum_any (n : Int) (h1 : -9223372036854775808 ≤ n) (h2 : n ≤ 9223372036854775807) (w : World) :
    Calls Try.prog 50 #[.int .i64 n] w fun e w' => e = .returned (.int .i64 (Se.quorum n)) ∧ w = w' := by
  cases hm : Se.may n with
  | true =>
    have hr := may_range hm
    have hf : Se.quorum n = n - (n - 1) / 3 := by rw [Se.quorum, if_pos hm]
    have hg : Se.faults n = (n - 1) / 3 := by rw [Se.faults, if_pos hm]
    have HM := Lib.hid hm
    have HF := Lib.hid hf
    have HG := Lib.hid hg
    obtain ⟨r1, r2, _⟩ := hr
    clear hm hf hg
    go_enter Try.func50, Try.ntmps50
    go_wp2_with fail
    refine (pmay_eq HM.out h1 h2 _).mono ?_
    rintro e w1 ⟨rfl, rfl⟩
    go_wp2_with fail
    refine (pfaults_eq HG.out h1 h2 _).mono ?_
    rintro e w1 ⟨rfl, rfl⟩
    go_wp2
    go_ret
    exact ⟨by rw [HF.out]; rfl, rfl⟩
  | false =>
    have hf : Se.quorum n = 0 := by rw [Se.quorum, hm]; rfl
    have HM := Lib.hid hm
    have HF := Lib.hid hf
    clear hm hf
    go_enter Try.func50, Try.ntmps50
    go_wp2_with fail
    refine (pmay_eq HM.out h1 h2 _).mono ?_
    rintro e w1 ⟨rfl, rfl⟩
    go_wp2
    go_ret
    exact ⟨by rw [HF.out]; rfl, rfl⟩
end Go.Proofs.Ytmhohnffaffdfaa
