/- What the kernel reckons, number by number below the prime: (1 + t i) to the power of the prime; the inverses; that 1 + t t is not 0. -/
namespace Ga

def sq (x : Nat × Nat) : Nat × Nat := ((x.1 * x.1 + 10007 * 10007 - x.2 * x.2) % 10007, (2 * x.1 * x.2) % 10007)
def mu (t : Nat) (x : Nat × Nat) : Nat × Nat := ((x.1 + 10007 * 10007 - x.2 * t) % 10007, (x.1 * t + x.2) % 10007)
/-- (1, t) to the power 10007 = 10011100010111b. -/
def fro (t : Nat) : Nat × Nat :=
  mu t (sq (mu t (sq (mu t (sq (sq (mu t (sq (sq (sq (sq (mu t (sq (mu t (sq (mu t (sq (sq (sq (1, t))))))))))))))))))))
def sn (x : Nat) : Nat := x * x % 10007
def mn (t x : Nat) : Nat := x * t % 10007
/-- t to the power 10005 = 10011100010101b. -/
def rev (t : Nat) : Nat :=
  mn t (sn (sn (mn t (sn (sn (mn t (sn (sn (sn (sn (mn t (sn (mn t (sn (mn t (sn (sn (sn t))))))))))))))))))
def good (t : Nat) : Bool := 10007 ≤ t || ((let x := fro t; x.1 == 1 && x.2 == (10007 - t) % 10007) && (t == 0 || rev t * t % 10007 == 1) && (1 + t * t) % 10007 != 0)
def all : Nat → Nat → Bool
  | 0, lo => good lo
  | d + 1, lo => all d lo && all d (lo + 2 ^ d)

theorem all_good : ∀ (d lo : Nat), all d lo = true → ∀ t, lo ≤ t → t < lo + 2 ^ d → good t = true := by
  intro d
  induction d with
  | zero =>
    intro lo h t h1 h2
    obtain rfl : t = lo := by simp at h2; omega
    exact h
  | succ d ih =>
    intro lo h t h1 h2
    rw [all, Bool.and_eq_true] at h
    rw [Nat.pow_succ] at h2
    by_cases hc : t < lo + 2 ^ d
    · exact ih lo h.1 t h1 hc
    · exact ih (lo + 2 ^ d) h.2 t (by omega) (by omega)

theorem tab0 : all 11 0 = true := by decide +kernel
theorem tab1 : all 11 2048 = true := by decide +kernel
theorem tab2 : all 11 4096 = true := by decide +kernel
theorem tab3 : all 11 6144 = true := by decide +kernel
theorem tab4 : all 11 8192 = true := by decide +kernel

theorem good_all (t : Nat) (h : t < 10007) : good t = true := by
  by_cases h0 : t < 2048
  · exact all_good 11 0 tab0 t (by omega) (by omega)
  by_cases h1 : t < 4096
  · exact all_good 11 2048 tab1 t (by omega) (by omega)
  by_cases h2 : t < 6144
  · exact all_good 11 4096 tab2 t (by omega) (by omega)
  by_cases h3 : t < 8192
  · exact all_good 11 6144 tab3 t (by omega) (by omega)
  · exact all_good 11 8192 tab4 t (by omega) (by omega)

theorem fro_all (t : Nat) (h : t < 10007) : fro t = (1, (10007 - t) % 10007) := by
  have := good_all t h
  have h1 : ¬ 10007 ≤ t := by omega
  simp only [good, h1, decide_false, Bool.false_or, Bool.and_eq_true, beq_iff_eq] at this
  exact Prod.ext this.1.1.1 this.1.1.2
theorem rev_all (t : Nat) (h : t < 10007) (h0 : t ≠ 0) : rev t * t % 10007 = 1 := by
  have := good_all t h
  have h1 : ¬ 10007 ≤ t := by omega
  simp only [good, h1, decide_false, Bool.false_or, Bool.and_eq_true, Bool.or_eq_true, beq_iff_eq, h0, false_or] at this
  exact this.1.2
theorem sum_all (t : Nat) (h : t < 10007) : (1 + t * t) % 10007 ≠ 0 := by
  have := good_all t h
  have h1 : ¬ 10007 ≤ t := by omega
  simp only [good, h1, decide_false, Bool.false_or, Bool.and_eq_true, bne_iff_ne] at this
  exact this.2
end Ga
