/- Elements as a field: the power of the prime, inverses; without any program. -/
import Derived.Test.YtngmkokmomficaaGaussRing
import Derived.Test.YtngmkokmomficaaGaussTab
namespace Ga

/-- A pair of natural numbers as an element. -/
def toE (p : Nat × Nat) : E := ((p.1 : Int), (p.2 : Int))
def okN (p : Nat × Nat) : Prop := p.1 < 10007 ∧ p.2 < 10007
theorem okS {a : Nat} (h : a < 10007) : okN (a, 0) := ⟨h, show 0 < 10007 by decide⟩
theorem okT {t : Nat} (h : t < 10007) : okN (1, t) := ⟨show 1 < 10007 by decide, h⟩
theorem ok_toE {p : Nat × Nat} (h : okN p) : ok (toE p) = true := (ok_iff _).2 ⟨by simp [toE], by have := h.1; simp [toE]; omega, by simp [toE], by have := h.2; simp [toE]; omega⟩

theorem toE_sq {p : Nat × Nat} (h : okN p) : okN (sq p) ∧ toE (sq p) = mul (toE p) (toE p) := by
  obtain ⟨a, b⟩ := p
  refine ⟨⟨Nat.mod_lt _ (by decide), Nat.mod_lt _ (by decide)⟩, ?_⟩
  rw [mul_ok (ok_toE h) (ok_toE h)]
  have hb : b * b ≤ 10007 * 10007 := Nat.mul_le_mul (Nat.le_of_lt h.2) (Nat.le_of_lt h.2)
  have e2 : 2 * a * b = a * b + b * a := by grind
  simp only [toE, sq, e2]
  generalize ha : a * a = A at *
  generalize hb2 : b * b = B at *
  generalize hc : a * b = C at *
  generalize hd : b * a = D at *
  have ia : (a : Int) * a = A := by rw [← ha]; simp
  have ib : (b : Int) * b = B := by rw [← hb2]; simp
  have ic : (a : Int) * b = C := by rw [← hc]; simp
  have id' : (b : Int) * a = D := by rw [← hd]; simp
  rw [ia, ib, ic, id']
  exact Prod.ext (by simp only; omega) (by simp only; omega)
theorem toE_mu {p : Nat × Nat} {t : Nat} (h : okN p) (ht : t < 10007) : okN (mu t p) ∧ toE (mu t p) = mul (toE p) (toE (1, t)) := by
  obtain ⟨a, b⟩ := p
  refine ⟨⟨Nat.mod_lt _ (by decide), Nat.mod_lt _ (by decide)⟩, ?_⟩
  rw [mul_ok (ok_toE h) (ok_toE (okT ht))]
  have hb : b * t ≤ 10007 * 10007 := Nat.mul_le_mul (Nat.le_of_lt h.2) (Nat.le_of_lt ht)
  simp only [toE, mu]
  generalize hb2 : b * t = B at *
  generalize hc : a * t = C at *
  have ib : (b : Int) * t = B := by rw [← hb2]; simp
  have ic : (a : Int) * t = C := by rw [← hc]; simp
  have i1 : (a : Int) * ((1 : Nat) : Int) = a := by simp
  have i2 : (b : Int) * ((1 : Nat) : Int) = b := by simp
  rw [ib, ic, i1, i2]
  exact Prod.ext (by simp only; omega) (by simp only; omega)

/-- The pair is x to the power n. -/
def Is (x : E) (p : Nat × Nat) (n : Nat) : Prop := okN p ∧ toE p = npow x n
theorem Is.dbl {x : E} {p : Nat × Nat} {n : Nat} (hx : ok x = true) (h : Is x p n) : Is x (sq p) (n + n) := by
  obtain ⟨h1, h2⟩ := toE_sq h.1
  exact ⟨h1, by rw [h2, h.2, npow_add hx]⟩
theorem Is.inc {t : Nat} {p : Nat × Nat} {n : Nat} (ht : t < 10007) (h : Is (toE (1, t)) p n) : Is (toE (1, t)) (mu t p) (n + 1) := by
  obtain ⟨h1, h2⟩ := toE_mu h.1 ht
  exact ⟨h1, by rw [h2, h.2, npow]⟩
theorem Is.cast {x : E} {p : Nat × Nat} {n m : Nat} (h : Is x p n) (e : n = m) : Is x p m := e ▸ h
theorem fro_is (t : Nat) (ht : t < 10007) : npow (toE (1, t)) 10007 = toE (1, (10007 - t) % 10007) := by
  have hx : ok (toE (1, t)) = true := ok_toE (okT ht)
  have h0 : Is (toE (1, t)) (1, t) 1 := ⟨(okT ht), (npow_one hx).symm⟩
  have h := Is.cast (Is.inc ht (Is.dbl hx (Is.inc ht (Is.dbl hx (Is.inc ht (Is.dbl hx (Is.dbl hx (Is.inc ht (Is.dbl hx (Is.dbl hx (Is.dbl hx (Is.dbl hx (Is.inc ht (Is.dbl hx (Is.inc ht (Is.dbl hx (Is.inc ht (Is.dbl hx (Is.dbl hx (Is.dbl hx h0)))))))))))))))))))) (show _ = 10007 by decide)
  rw [← fro_all t ht]
  exact h.2.symm

/-- A number as an element. -/
theorem scal_mul (a b : Nat) (ha : a < 10007) (hb : b < 10007) : mul (toE (a, 0)) (toE (b, 0)) = toE (a * b % 10007, 0) := by
  rw [mul_ok (ok_toE (okS ha)) (ok_toE (okS hb))]
  simp only [toE]
  have : (a : Int) * b = ((a * b : Nat) : Int) := by simp
  rw [this]
  generalize a * b = c
  exact Prod.ext (by simp only; omega) (by simp only; omega)
/-- The number p is a to the power n. -/
def IsN (a p n : Nat) : Prop := p < 10007 ∧ toE (p, 0) = npow (toE (a, 0)) n
theorem IsN.dbl {a p n : Nat} (ha : a < 10007) (h : IsN a p n) : IsN a (sn p) (n + n) :=
  ⟨Nat.mod_lt _ (by decide), by rw [sn, ← scal_mul p p h.1 h.1, h.2, npow_add (ok_toE (okS ha))]⟩
theorem IsN.inc {a p n : Nat} (ha : a < 10007) (h : IsN a p n) : IsN a (mn a p) (n + 1) :=
  ⟨Nat.mod_lt _ (by decide), by rw [mn, ← scal_mul p a h.1 ha, h.2, npow]⟩
theorem IsN.cast {a p n m : Nat} (h : IsN a p n) (e : n = m) : IsN a p m := e ▸ h
theorem rev_is (a : Nat) (ha : a < 10007) : IsN a (rev a) 10005 := by
  have hx : ok (toE (a, 0)) = true := ok_toE (okS ha)
  have h0 : IsN a a 1 := ⟨ha, (npow_one hx).symm⟩
  exact IsN.cast (IsN.inc ha (IsN.dbl ha (IsN.dbl ha (IsN.inc ha (IsN.dbl ha (IsN.dbl ha (IsN.inc ha (IsN.dbl ha (IsN.dbl ha (IsN.dbl ha (IsN.dbl ha (IsN.inc ha (IsN.dbl ha (IsN.inc ha (IsN.dbl ha (IsN.inc ha (IsN.dbl ha (IsN.dbl ha (IsN.dbl ha h0))))))))))))))))))) (show _ = 10005 by decide)
theorem scal_fermat (a : Nat) (ha : a < 10007) : npow (toE (a, 0)) 10007 = toE (a, 0) := by
  by_cases h0 : a = 0
  · subst h0
    have e : (10007 : Nat) = 10006 + 1 := rfl
    rw [e, npow, show toE (0, 0) = ((0, 0) : E) from rfl, mul_zero (ok_npow _ _)]
  · have hx : ok (toE (a, 0)) = true := ok_toE (okS ha)
    obtain ⟨h1, h2⟩ := rev_is a ha
    have e : (10007 : Nat) = 10005 + 1 + 1 := rfl
    rw [e, npow, npow, ← h2, scal_mul _ _ h1 ha, rev_all a ha h0]
    rw [show toE (1, 0) = ((1, 0) : E) from rfl, mul_comm, one_mul hx]

/-- i turned round. -/
def cj (x : E) : E := (x.1, -x.2 % 10007)
theorem ok_nat {x : E} (h : ok x = true) : ∃ a b : Nat, x = toE (a, b) ∧ a < 10007 ∧ b < 10007 := by
  obtain ⟨h1, h2, h3, h4⟩ := (ok_iff x).1 h
  refine ⟨x.1.toNat, x.2.toNat, Prod.ext ?_ ?_, by omega, by omega⟩
  · simp [toE]; omega
  · simp [toE]; omega
theorem ok_cj {x : E} (h : ok x = true) : ok (cj x) = true := by
  obtain ⟨h1, h2, h3, h4⟩ := (ok_iff x).1 h
  exact (ok_iff _).2 ⟨h1, h2, by simp only [cj]; omega, by simp only [cj]; omega⟩
theorem cj_cj {x : E} (h : ok x = true) : cj (cj x) = x := by
  obtain ⟨h1, h2, h3, h4⟩ := (ok_iff x).1 h
  exact Prod.ext rfl (by simp only [cj]; omega)

theorem mul_toE (a b c d : Nat) (h1 : okN (a, b)) (h2 : okN (c, d)) : mul (toE (a, b)) (toE (c, d)) = (((a * c : Nat) - (b * d : Nat) : Int) % 10007, ((a * d : Nat) + (b * c : Nat) : Int) % 10007) := by
  rw [mul_ok (ok_toE h1) (ok_toE h2)]
  simp [toE]

/-- To the power of the prime, i turns round. -/
theorem frobenius {x : E} (h : ok x = true) : npow x 10007 = cj x := by
  obtain ⟨a, b, rfl, ha, hb⟩ := ok_nat h
  by_cases h0 : a = 0
  · subst h0
    have e : toE (0, b) = mul (toE (b, 0)) (0, 1) := by
      rw [show ((0, 1) : E) = toE (0, 1) from rfl, mul_toE b 0 0 1 (okS hb) ⟨by decide, by decide⟩]
      exact Prod.ext (by simp [toE]) (by simp [toE]; omega)
    have hi : npow (0, 1) 10007 = ((0, 10006) : E) := by
      have h1 : ok (0, 1) = true := by decide
      have h2 : pow (0, 1) 10007 = ((0, 10006) : E) := by decide +kernel
      rw [← pow_npow h1 10007 (by decide)]
      exact h2
    rw [e, npow_mul (ok_toE (okS hb)) (by decide), scal_fermat b hb, hi, ← e]
    rw [show ((0, 10006) : E) = toE (0, 10006) from rfl, mul_toE b 0 0 10006 (okS hb) ⟨by decide, by decide⟩]
    exact Prod.ext (by simp [toE, cj]) (by simp [toE, cj]; omega)
  · obtain ⟨hr, _⟩ := rev_is a ha
    have hinv := rev_all a ha h0
    obtain ⟨t, ht⟩ : ∃ t, b * rev a % 10007 = t := ⟨_, rfl⟩
    have htl : t < 10007 := by rw [← ht]; exact Nat.mod_lt _ (by decide)
    have hat : a * t % 10007 = b := by
      rw [← ht, Nat.mul_mod, Nat.mod_mod, ← Nat.mul_mod, show a * (b * rev a) = b * (rev a * a) by grind, Nat.mul_mod, hinv, Nat.mul_one, Nat.mod_mod, Nat.mod_eq_of_lt hb]
    have e : toE (a, b) = mul (toE (a, 0)) (toE (1, t)) := by
      rw [mul_toE a 0 1 t (okS ha) (okT htl)]
      generalize a * t = c at *
      exact Prod.ext (by simp [toE]; omega) (by simp [toE]; omega)
    rw [e, npow_mul (ok_toE (okS ha)) (ok_toE (okT htl)), scal_fermat a ha, fro_is t htl, ← e]
    have hm : (10007 - t) % 10007 < 10007 := Nat.mod_lt _ (by decide)
    rw [mul_toE a 0 1 _ (okS ha) (okT hm)]
    have hp : a * ((10007 - t) % 10007) % 10007 = (10007 - b) % 10007 := by
      by_cases t0 : t = 0
      · subst t0
        have : b = 0 := by rw [← hat]; simp
        subst this
        simp
      · have e1 : (10007 - t) % 10007 = 10007 - t := by omega
        have e2 : a * (10007 - t) + a * t = a * 10007 := by rw [← Nat.mul_add, Nat.sub_add_cancel (Nat.le_of_lt htl)]
        rw [e1]
        generalize a * (10007 - t) = u at *
        generalize a * t = v at *
        omega
    generalize a * ((10007 - t) % 10007) = u at *
    exact Prod.ext (by simp [toE, cj]; omega) (by simp [toE, cj]; omega)
end Ga
