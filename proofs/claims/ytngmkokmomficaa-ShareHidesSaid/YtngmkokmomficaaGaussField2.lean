/- Elements as a field: inverses; without any program. -/
import Derived.Test.YtngmkokmomficaaGaussField
namespace Ga

/-- A product of two numbers that are not 0 modulo the prime is not. -/
theorem prime_like {a b : Nat} (ha : a < 10007) (h0 : a ≠ 0) (h : a * b % 10007 = 0) : b % 10007 = 0 := by
  have hinv := rev_all a ha h0
  have : rev a * (a * b) % 10007 = b % 10007 := by
    rw [← Nat.mul_assoc, Nat.mul_mod, hinv, Nat.one_mul, Nat.mod_mod]
  rw [← this, Nat.mul_mod, h, Nat.mul_zero]
theorem norm_nat {a b : Nat} (h : okN (a, b)) : norm (toE (a, b)) = (((a * a + b * b) % 10007 : Nat) : Int) := by
  rw [norm, if_pos (ok_toE h)]
  simp [toE]
theorem norm_ne {a b : Nat} (h : okN (a, b)) (hne : (a, b) ≠ (0, 0)) : (a * a + b * b) % 10007 ≠ 0 := by
  intro he
  by_cases h0 : a = 0
  · subst h0
    have hb0 : b ≠ 0 := fun e => hne (by rw [e])
    rw [Nat.mul_zero, Nat.zero_add] at he
    have := prime_like h.2 hb0 he
    rw [Nat.mod_eq_of_lt h.2] at this
    exact hb0 this
  · have hinv := rev_all a h.1 h0
    obtain ⟨t, ht⟩ : ∃ t, b * rev a % 10007 = t := ⟨_, rfl⟩
    have htl : t < 10007 := by rw [← ht]; exact Nat.mod_lt _ (by decide)
    have hat : a * t % 10007 = b := by
      rw [← ht, Nat.mul_mod, Nat.mod_mod, ← Nat.mul_mod, show a * (b * rev a) = b * (rev a * a) by grind, Nat.mul_mod, hinv, Nat.mul_one, Nat.mod_mod, Nat.mod_eq_of_lt h.2]
    have key : (a * a * (1 + t * t)) % 10007 = (a * a + b * b) % 10007 := by
      have e : a * a * (1 + t * t) = a * a + (a * t) * (a * t) := by grind
      rw [e, Nat.add_mod, Nat.mul_mod (a * t), hat, ← Nat.add_mod]
    rw [he, Nat.mul_assoc] at key
    have h1 := prime_like h.1 h0 key
    have h2 := prime_like h.1 h0 h1
    exact sum_all t htl h2

theorem wholeL_spec : ∀ (f : Nat) (o v : Nat) (n : Nat), n < 2 ^ f → o < 10007 → v < 10007 → ∃ r : Nat, r < 10007 ∧ wholeL f (o : Int) (v : Int) n = (r : Int) ∧ toE (r, 0) = mul (toE (o, 0)) (npow (toE (v, 0)) n) := by
  intro f
  induction f with
  | zero =>
    intro o v n h ho hv
    obtain rfl : n = 0 := by simp at h; omega
    exact ⟨o, ho, rfl, by rw [npow, one_mul (ok_toE (okS ho))]⟩
  | succ f ih =>
    intro o v n h ho hv
    rw [wholeL]
    have hov : (o : Int) * v % 10007 = ((o * v % 10007 : Nat) : Int) := by simp
    have hvv : (v : Int) * v % 10007 = ((v * v % 10007 : Nat) : Int) := by simp
    have lv : v * v % 10007 < 10007 := Nat.mod_lt _ (by decide)
    have lo : o * v % 10007 < 10007 := Nat.mod_lt _ (by decide)
    have hx := ok_toE (okS hv)
    by_cases h0 : n = 0
    · rw [if_pos h0]
      exact ⟨o, ho, rfl, by rw [h0, npow, one_mul (ok_toE (okS ho))]⟩
    · rw [if_neg h0]
      rw [Nat.pow_succ] at h
      have hsq : npow (mul (toE (v, 0)) (toE (v, 0))) (n / 2) = npow (toE (v, 0)) (n / 2 + n / 2) := by rw [npow_mul hx hx, ← npow_add hx]
      by_cases h1 : n % 2 = 1
      · rw [if_pos h1, hov, hvv]
        obtain ⟨r, hr, he, hm⟩ := ih (o * v % 10007) (v * v % 10007) (n / 2) (by omega) lo lv
        refine ⟨r, hr, he, ?_⟩
        rw [hm, ← scal_mul o v ho hv, ← scal_mul v v hv hv, hsq]
        have e : n = n / 2 + n / 2 + 1 := by omega
        conv => rhs; rw [e, npow]
        rw [mul_assoc (ok_toE (okS ho)) hx (ok_npow _ _), mul_comm (toE (v, 0))]
      · rw [if_neg h1, hvv]
        obtain ⟨r, hr, he, hm⟩ := ih o (v * v % 10007) (n / 2) (by omega) ho lv
        refine ⟨r, hr, he, ?_⟩
        rw [hm, ← scal_mul v v hv hv, hsq]
        have e : n = n / 2 + n / 2 := by omega
        conv => rhs; rw [e]
/-- A number's inverse, as the document reckons it. -/
theorem whole_inv {v : Nat} (hv : v < 10007) (h0 : v ≠ 0) : ∃ r : Nat, r < 10007 ∧ whole (v : Int) = (r : Int) ∧ r * v % 10007 = 1 := by
  obtain ⟨r, hr, he, hm⟩ := wholeL_spec 64 1 v 10005 (by decide) (by decide) hv
  refine ⟨r, hr, he, ?_⟩
  obtain ⟨p1, p2⟩ := rev_is v hv
  rw [mul_comm, show toE (1, 0) = ((1, 0) : E) from rfl, one_mul (ok_npow _ _), ← p2] at hm
  have : r = rev v := by
    have := congrArg Prod.fst hm
    simp only [toE] at this
    omega
  rw [this]
  exact rev_all v hv h0

/-- The document's inverse is one. -/
theorem invR_mul {x : E} (hx : ok x = true) (h0 : x ≠ (0, 0)) : ok (invR x).1 = true ∧ (invR x).2 = 0 ∧ mul x (invR x).1 = (1, 0) := by
  obtain ⟨a, b, rfl, ha, hb⟩ := ok_nat hx
  have hne : (a, b) ≠ (0, 0) := fun e => h0 (by rw [e]; rfl)
  have hn := norm_ne ⟨ha, hb⟩ hne
  obtain ⟨m, hm⟩ : ∃ m, (a * a + b * b) % 10007 = m := ⟨_, rfl⟩
  have hml : m < 10007 := by rw [← hm]; exact Nat.mod_lt _ (by decide)
  rw [hm] at hn
  obtain ⟨r, hr, he, h1⟩ := whole_inv hml hn
  have e : invR (toE (a, b)) = (((a : Int) * r % 10007, (10007 - (b : Int)) % 10007 * r % 10007), 0) := by
    rw [invR, hx, decide_eq_true h0, norm_nat ⟨ha, hb⟩, hm, he]
    rfl
  rw [e]
  have hok : ok ((a : Int) * r % 10007, (10007 - (b : Int)) % 10007 * r % 10007) = true := ok_mod _ _
  refine ⟨hok, rfl, ?_⟩
  rw [mul_ok hx hok]
  simp only [toE]
  obtain ⟨k1, e1⟩ := emod_ex ((a : Int) * r)
  obtain ⟨k2, e2⟩ := emod_ex (10007 - (b : Int))
  obtain ⟨k3, e3⟩ := emod_ex ((10007 - (b : Int) - 10007 * k2) * r)
  rw [e2, e1, e3]
  have q1 : (r : Int) * m % 10007 = 1 := by
    have : ((r * m % 10007 : Nat) : Int) = 1 := by rw [h1]; rfl
    simpa using this
  obtain ⟨k4, e4⟩ : ∃ k4 : Int, (a : Int) * a + b * b = m + 10007 * k4 := by
    refine ⟨((a * a + b * b) / 10007 : Nat), ?_⟩
    have h2 : a * a + b * b = m + 10007 * ((a * a + b * b) / 10007) := by rw [← hm]; omega
    have h3 := congrArg (fun n : Nat => (n : Int)) h2
    simpa using h3
  refine Prod.ext ?_ ?_
  · show ((a : Int) * (a * r - 10007 * k1) - b * ((10007 - b - 10007 * k2) * r - 10007 * k3)) % 10007 = 1
    rw [← q1]
    exact emod_of (r * k4 - a * k1 - b * r + b * k2 * r + b * k3) (by grind)
  · show ((a : Int) * ((10007 - b - 10007 * k2) * r - 10007 * k3) + b * (a * r - 10007 * k1)) % 10007 = 0
    have : (0 : Int) = 0 % 10007 := rfl
    rw [this]
    exact emod_of (a * r - a * k2 * r - a * k3 - b * k1) (by grind)

theorem npow_period {x : E} (hx : ok x = true) (h0 : x ≠ (0, 0)) : npow x 100140048 = (1, 0) := by
  obtain ⟨hy, _, hm⟩ := invR_mul hx h0
  have h1 : npow x 100140049 = x := by
    have : (100140049 : Nat) = 10007 * 10007 := rfl
    rw [this, ← npow_npow hx, frobenius hx, frobenius (ok_cj hx), cj_cj hx]
  have h2 : npow x 100140049 = mul (npow x 100140048) x := rfl
  rw [h2] at h1
  have h3 := congrArg (fun z => mul z (invR x).1) h1
  rw [mul_assoc (ok_npow _ _) hx hy, hm, one_mul (ok_npow _ _)] at h3
  exact h3
/-- The program's inverse is the document's. -/
theorem inv_eq (x : E) : inv x = invR x := by
  by_cases hx : ok x = true
  · by_cases h0 : x = (0, 0)
    · simp [inv, invR, h0]
    · obtain ⟨hy, hc, hm⟩ := invR_mul hx h0
      have e : inv x = (pow x 100140047, 0) := by simp [inv, hx, h0]
      rw [e]
      refine Prod.ext ?_ hc.symm
      show pow x 100140047 = (invR x).1
      rw [pow_npow hx _ (by decide)]
      have h1 : mul (npow x 100140047) x = (1, 0) := npow_period hx h0
      have h2 := congrArg (fun z => mul z (invR x).1) h1
      rw [mul_assoc (ok_npow _ _) hx hy, hm, one_mul (ok_npow _ _), mul_comm (1, 0), one_mul hy] at h2
      exact h2
  · simp [inv, invR, hx]
theorem inv_mul {x : E} (hx : ok x = true) (h0 : x ≠ (0, 0)) : ok (inv x).1 = true ∧ (inv x).2 = 0 ∧ mul x (inv x).1 = (1, 0) := by
  rw [inv_eq]; exact invR_mul hx h0
theorem inv_unique {x y : E} (hx : ok x = true) (hy : ok y = true) (h0 : x ≠ (0, 0)) (h : mul x y = (1, 0)) : y = (inv x).1 := by
  obtain ⟨hz, _, hm⟩ := inv_mul hx h0
  have h1 := congrArg (fun z => mul (inv x).1 z) h
  rw [← mul_assoc hz hx hy, mul_comm (inv x).1 x, hm, mul_comm (1, 0) y, one_mul hy, one_mul hz] at h1
  exact h1
theorem mul_nil {x y : E} (hx : ok x = true) (hy : ok y = true) (h0 : x ≠ (0, 0)) (h : mul x y = (0, 0)) : y = (0, 0) := by
  obtain ⟨hz, _, hm⟩ := inv_mul hx h0
  have h1 := congrArg (fun z => mul (inv x).1 z) h
  rw [← mul_assoc hz hx hy, mul_comm (inv x).1 x, hm, mul_comm (1, 0) y, one_mul hy, mul_zero hz] at h1
  exact h1
theorem inv_ne {x : E} (hx : ok x = true) (h0 : x ≠ (0, 0)) : (inv x).1 ≠ (0, 0) := by
  obtain ⟨_, _, hm⟩ := inv_mul hx h0
  intro e
  rw [e, mul_zero hx] at hm
  cases hm
theorem inv_inv {x : E} (hx : ok x = true) (h0 : x ≠ (0, 0)) : (inv (inv x).1).1 = x := by
  obtain ⟨hz, _, hm⟩ := inv_mul hx h0
  rw [mul_comm] at hm
  exact (inv_unique hz hx (inv_ne hx h0) hm).symm
theorem pow_period {x : E} (hx : ok x = true) (h0 : x ≠ (0, 0)) : pow x 100140048 = (1, 0) := by
  rw [pow_npow hx _ (by decide)]; exact npow_period hx h0
theorem pow_prime {x : E} (hx : ok x = true) : pow x 10007 = (x.1, if 0 < x.2 then 10007 - x.2 else 0) := by
  rw [pow_npow hx _ (by decide), frobenius hx]
  obtain ⟨h1, h2, h3, h4⟩ := (ok_iff x).1 hx
  refine Prod.ext rfl ?_
  simp only [cj]
  split <;> omega
theorem ofN_inj {v w : Nat} (hv : v < 100140049) (hw : w < 100140049) (h : ofN v = ofN w) : v = w := by
  rw [ofN, ofN, Prod.mk.injEq] at h
  omega
end Ga
