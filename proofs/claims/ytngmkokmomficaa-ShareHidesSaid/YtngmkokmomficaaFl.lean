/- Whole numbers as floats: sums, differences, products, and the whole quotient by the prime, are exact. No program is named here. -/
import Ieee.Arith
namespace Fl
open Ieee

theorem log2_eq {n L : Nat} (h1 : 2 ^ L ≤ n) (h2 : n < 2 ^ (L + 1)) : n.log2 = L := by
  have h0 : n ≠ 0 := by have := Nat.two_pow_pos L; omega
  have a := (Nat.le_log2 h0).2 h1
  have b := (Nat.log2_lt h0).2 h2
  omega

theorem pow_split {a b c : Nat} (h : a = b + c) : 2 ^ a = 2 ^ b * 2 ^ c := by rw [h, Nat.pow_add]

theorem cut_even_zero (s : Bool) (n : Nat) : Toward.even.cut s n 0 = n := by
  simp [Toward.cut, Nat.mod_one]

theorem cut_exact (w : Toward) (s : Bool) (N d : Nat) : w.cut s (N * 2 ^ d) d = N := by
  rcases Nat.eq_zero_or_pos N with rfl | h
  · cases w <;> simp [Toward.cut]
  · have h0 : N * 2 ^ d ≠ 0 := by have := Nat.mul_pos h (Nat.two_pow_pos d); omega
    have h1 : d ≤ (N * 2 ^ d).log2 := (Nat.le_log2 h0).2 (Nat.le_mul_of_pos_left _ h)
    have h2 : min d ((N * 2 ^ d).log2 + 2) = d := by omega
    have h3 : (N * 2 ^ d) / 2 ^ d = N := Nat.mul_div_cancel _ (Nat.two_pow_pos d)
    have h4 : (N * 2 ^ d) % 2 ^ d = 0 := Nat.mul_mod_left _ _
    cases w <;> simp [Toward.cut, h2, h3, h4, Nat.one_shiftLeft]

theorem cut_down (s : Bool) (n d : Nat) : Toward.down.cut s n d = n / 2 ^ d + (s && n % 2 ^ d != 0).toNat := by
  simp only [Toward.cut, Nat.one_shiftLeft]
  by_cases hd : d ≤ n.log2 + 2
  · rw [Nat.min_eq_left hd]
  · rw [Nat.min_eq_right (by omega)]
    have a : n < 2 ^ (n.log2 + 2) := Nat.lt_of_lt_of_le Nat.lt_log2_self (Nat.pow_le_pow_right (by omega) (by omega))
    have b : n < 2 ^ d := Nat.lt_of_lt_of_le Nat.lt_log2_self (Nat.pow_le_pow_right (by omega) (by omega))
    rw [Nat.div_eq_of_lt a, Nat.div_eq_of_lt b, Nat.mod_eq_of_lt a, Nat.mod_eq_of_lt b]

abbrev dbl : Format := { exponentBits := 11, fractionBits := 52 }
theorem dbl_binade : dbl.binade = 2 ^ 52 := rfl
theorem dbl_inf : dbl.infRung = 2047 * 2 ^ 52 := rfl
theorem dbl_sign : dbl.signWeight = 2 ^ 63 := rfl
theorem dbl_least : dbl.leastPlace = -1074 := by decide

/-- The word of N, whose highest digit's place is L. -/
def wordOf (s : Bool) (L M : Nat) : Nat := dbl.word s ((L + 1022) * 2 ^ 52 + M)

theorem nearest_of {s : Bool} {m k N L : Nat} (hm : m = N * 2 ^ k) (h1 : 2 ^ L ≤ N) (h2 : N < 2 ^ (L + 1)) (hL : L ≤ 52) :
    dbl.nearest s m (-(k : Int)) = wordOf s L (N * 2 ^ (52 - L)) := by
  have hk := Nat.two_pow_pos k
  have l1 : 2 ^ (L + k) ≤ m := by rw [hm, Nat.pow_add]; exact Nat.mul_le_mul_right _ h1
  have l2 : m < 2 ^ (L + k + 1) := by rw [hm, pow_split (show L + k + 1 = (L + 1) + k by omega)]; exact Nat.mul_lt_mul_of_pos_right h2 hk
  have hlog : m.log2 = L + k := log2_eq l1 l2
  have hm0 : m ≠ 0 := by have := Nat.two_pow_pos (L + k); omega
  have hlast : max (-(k : Int) + ((L + k : Nat) : Int) - ((52 : Nat) : Int)) (-1074) = (L : Int) - 52 := by omega
  have hM : N * 2 ^ (52 - L) < 2 ^ 53 := by
    have := Nat.mul_lt_mul_of_pos_right h2 (Nat.two_pow_pos (52 - L))
    rwa [← Nat.pow_add, show L + 1 + (52 - L) = 53 by omega] at this
  have hcut : Toward.even.cut s (m <<< (-(k : Int) - ((L : Int) - 52)).toNat) ((L : Int) - 52 - -(k : Int)).toNat = N * 2 ^ (52 - L) := by
    by_cases hle : L + k ≤ 52
    · rw [show (-(k : Int) - ((L : Int) - 52)).toNat = 52 - (L + k) by omega, show ((L : Int) - 52 - -(k : Int)).toNat = 0 by omega, cut_even_zero, Nat.shiftLeft_eq, hm, Nat.mul_assoc, ← Nat.pow_add]
      congr 2; omega
    · rw [show (-(k : Int) - ((L : Int) - 52)).toNat = 0 by omega, show ((L : Int) - 52 - -(k : Int)).toNat = L + k - 52 by omega, Nat.shiftLeft_zero, hm]
      have : N * 2 ^ k = (N * 2 ^ (52 - L)) * 2 ^ (L + k - 52) := by
        rw [Nat.mul_assoc, ← Nat.pow_add]; congr 2; omega
      rw [this, cut_exact]
  unfold Format.nearest
  rw [if_neg hm0]
  simp only [hlog, dbl_least, dbl_binade, dbl_inf]
  rw [hlast, hcut]
  unfold wordOf
  congr 1
  have : ((L : Int) - 52 - -1074).toNat = L + 1022 := by omega
  rw [this]
  have : (L + 1022) * 2 ^ 52 + N * 2 ^ (52 - L) ≤ 2047 * 2 ^ 52 := by
    have : (2:Nat) ^ 53 = 2 * 2 ^ 52 := by decide
    generalize N * 2 ^ (52 - L) = M at *
    omega
  exact Nat.min_eq_left this

theorem place_eq (L : Nat) : (-1074 : Int) + (L : Int) = (L : Int) - 1074 := by
  generalize (L : Int) = x
  omega
theorem place_of (L : Nat) : ((L + 1022 : Nat) : Int) - 1074 = (L : Int) - 52 := by
  rw [Int.natCast_add]
  generalize (L : Int) = x
  show x + 1022 - 1074 = x - 52
  omega
theorem read_rung {s : Bool} {E M : Nat} (h1 : 2 ^ 52 ≤ M) (h2 : M < 2 ^ 53) (hE : E ≤ 2000) : dbl.read (dbl.word s (E * 2 ^ 52 + M)) = .number s M ((E : Int) - 1074) := by
  obtain ⟨f, hf⟩ : ∃ f, M = 2 ^ 52 + f := ⟨M - 2 ^ 52, by omega⟩
  subst hf
  have hf : f < 2 ^ 52 := by have : (2:Nat) ^ 53 = 2 * 2 ^ 52 := by decide
                             omega
  have hr : E * 2 ^ 52 + (2 ^ 52 + f) = (E + 1) * 2 ^ 52 + f := by omega
  have hmod : dbl.word s (E * 2 ^ 52 + (2 ^ 52 + f)) % 2 ^ 63 = (E + 1) * 2 ^ 52 + f := by
    unfold Format.word
    rw [hr, dbl_sign]
    cases s
    · rw [if_neg (by decide)]; omega
    · rw [if_pos rfl]; omega
  have hdiv : (dbl.word s (E * 2 ^ 52 + (2 ^ 52 + f)) / 2 ^ 63 % 2 == 1) = s := by
    unfold Format.word
    rw [hr, dbl_sign]
    cases s
    · rw [if_neg (by decide)]
      have : ((E + 1) * 2 ^ 52 + f) / 2 ^ 63 = 0 := by omega
      rw [this]; rfl
    · rw [if_pos rfl]
      have : (2 ^ 63 + ((E + 1) * 2 ^ 52 + f)) / 2 ^ 63 = 1 := by omega
      rw [this]; rfl
  have a : ((E + 1) * 2 ^ 52 + f) % 2 ^ 52 = f := by clear hmod hdiv; omega
  have b : ((E + 1) * 2 ^ 52 + f) / 2 ^ 52 - 1 = E := by clear hmod hdiv; omega
  have c1 : ¬ (E + 1) * 2 ^ 52 + f < 2 ^ 52 := by clear hmod hdiv; omega
  have c2 : (E + 1) * 2 ^ 52 + f < 2047 * 2 ^ 52 := by
    have a1 : (E + 2) * 2 ^ 52 ≤ 2047 * 2 ^ 52 := Nat.mul_le_mul_right _ (by omega)
    have a2 : (E + 2) * 2 ^ 52 = (E + 1) * 2 ^ 52 + 2 ^ 52 := by rw [← Nat.succ_mul]
    exact Nat.lt_of_lt_of_le (by rw [a2]; exact Nat.add_lt_add_left hf _) a1
  have c3 : (-1074 : Int) + (E : Int) = (E : Int) - 1074 := place_eq E
  unfold Format.read
  simp only [dbl_sign, dbl_binade, dbl_inf, dbl_least, hmod, hdiv, a, b]
  rw [if_neg c1, if_pos c2, c3]
theorem read_word {s : Bool} {L M : Nat} (h1 : 2 ^ 52 ≤ M) (h2 : M < 2 ^ 53) (hL : L ≤ 900) : dbl.read (wordOf s L M) = .number s M ((L : Int) - 52) := by
  rw [wordOf, read_rung h1 h2 (by omega), place_of]

theorem read_zero (s : Bool) : dbl.read (dbl.word s 0) = .number s 0 (-1074) := by cases s <;> decide

/-- The datum is the whole number n; and where it is 0, it is +0. -/
def Is (d : Datum) (n : Int) : Prop := ∃ s m k, d = .number s m (-(k : Nat) : Int) ∧ signed s m 0 = n * 2 ^ k ∧ (m = 0 → s = false)

def F (n : Int) : Nat := dbl.write (.number (decide (n < 0)) n.natAbs 0)

theorem signed_zero (s : Bool) (m : Nat) : signed s m 0 = if s then -(m : Int) else m := by simp [signed]
theorem signed_up (s : Bool) (m k : Nat) : signed s m k = signed s m 0 * 2 ^ k := by
  simp only [signed, Nat.shiftLeft_eq, Nat.pow_zero, Nat.mul_one]
  split <;> simp [Int.neg_mul]

theorem Is.mag {d : Datum} {n : Int} (h : Is d n) : ∃ s k, d = .number s (n.natAbs * 2 ^ k) (-(k : Nat) : Int) ∧ s = decide (n < 0) := by
  obtain ⟨s, m, k, rfl, hv, hs⟩ := h
  rw [signed_zero] at hv
  have hp : (0 : Int) < 2 ^ k := Int.pow_pos (by decide)
  have hm : m = n.natAbs * 2 ^ k := by
    have := congrArg Int.natAbs hv
    rw [Int.natAbs_mul, Int.natAbs_pow] at this
    split at this <;> simpa using this
  refine ⟨s, k, by rw [hm], ?_⟩
  cases s with
  | false =>
    simp only [Bool.false_eq_true, if_false] at hv
    have : 0 ≤ n := by
      apply Int.not_lt.1
      intro hn
      have := Int.mul_neg_of_neg_of_pos hn hp
      omega
    symm; simpa using this
  | true =>
    have hm0 : m ≠ 0 := fun e => by simpa using hs e
    simp only [if_true] at hv
    have : n < 0 := by
      apply Int.not_le.1
      intro hn
      have := Int.mul_nonneg hn (Int.le_of_lt hp)
      omega
    symm; simpa using this

theorem log_ex (N : Nat) (h : 0 < N) : 2 ^ N.log2 ≤ N ∧ N < 2 ^ (N.log2 + 1) := ⟨Nat.log2_self_le (by omega), Nat.lt_log2_self⟩
theorem log_le {N L : Nat} (h : 0 < N) (h2 : N < 2 ^ (L + 1)) : N.log2 ≤ L := by
  have := (Nat.log2_lt (by omega)).2 h2
  omega

theorem F_pos {n : Int} (h : n ≠ 0) (hb : n.natAbs < 2 ^ 53) : F n = wordOf (decide (n < 0)) n.natAbs.log2 (n.natAbs * 2 ^ (52 - n.natAbs.log2)) := by
  have hp : 0 < n.natAbs := by omega
  obtain ⟨l1, l2⟩ := log_ex _ hp
  exact nearest_of (k := 0) (by simp) l1 l2 (log_le hp hb)

theorem F_zero : F 0 = 0 := by decide

theorem write_is {d : Datum} {n : Int} (h : Is d n) (hb : n.natAbs < 2 ^ 53) : dbl.write d = F n := by
  obtain ⟨s, k, rfl, rfl⟩ := h.mag
  by_cases h0 : n = 0
  · subst h0
    simp [Format.write, Format.nearest, F]
  · have hp : 0 < n.natAbs := by omega
    obtain ⟨l1, l2⟩ := log_ex _ hp
    rw [F_pos h0 hb]
    exact nearest_of rfl l1 l2 (log_le hp hb)

theorem scale {N L : Nat} (h1 : 2 ^ L ≤ N) (h2 : N < 2 ^ (L + 1)) (hL : L ≤ 52) : 2 ^ 52 ≤ N * 2 ^ (52 - L) ∧ N * 2 ^ (52 - L) < 2 ^ 53 := by
  constructor
  · have := Nat.mul_le_mul_right (2 ^ (52 - L)) h1
    rwa [← Nat.pow_add, show L + (52 - L) = 52 by omega] at this
  · have := Nat.mul_lt_mul_of_pos_right h2 (Nat.two_pow_pos (52 - L))
    rwa [← Nat.pow_add, show L + 1 + (52 - L) = 53 by omega] at this

theorem read_F {n : Int} (h : n ≠ 0) (hb : n.natAbs < 2 ^ 53) : dbl.read (F n) = .number (decide (n < 0)) (n.natAbs * 2 ^ (52 - n.natAbs.log2)) (-((52 - n.natAbs.log2 : Nat) : Int)) := by
  have hp : 0 < n.natAbs := by omega
  obtain ⟨l1, l2⟩ := log_ex _ hp
  have hL := log_le hp hb
  obtain ⟨s1, s2⟩ := scale l1 l2 hL
  rw [F_pos h hb, read_word s1 s2 (by omega)]
  congr 1
  omega

theorem signed_natAbs (n : Int) : signed (decide (n < 0)) n.natAbs 0 = n := by
  rw [signed_zero]
  by_cases h : n < 0
  · simp [h]; omega
  · simp [h]; omega

theorem is_F {n : Int} (hb : n.natAbs < 2 ^ 53) : Is (dbl.read (F n)) n := by
  by_cases h : n = 0
  · subst h
    exact ⟨false, 0, 1074, by decide, (Int.zero_mul _).symm, fun _ => rfl⟩
  · refine ⟨_, _, _, read_F h hb, ?_, ?_⟩
    · have := signed_natAbs n
      rw [signed_zero] at this ⊢
      generalize decide (n < 0) = s at this
      conv => rhs; rw [← this]
      cases s <;> simp [Int.neg_mul]
    · intro e
      have hp : 0 < n.natAbs := by omega
      have := Nat.mul_pos hp (Nat.two_pow_pos (52 - n.natAbs.log2))
      omega

/-- As 'Is', but whatever the sign of a zero. -/
def Isn (d : Datum) (n : Int) : Prop := ∃ s m k, d = .number s m (-(k : Nat) : Int) ∧ signed s m 0 = n * 2 ^ k
theorem Is.isn {d : Datum} {n : Int} (h : Is d n) : Isn d n := by
  obtain ⟨s, m, k, a, b, _⟩ := h
  exact ⟨s, m, k, a, b⟩
theorem Is.opp {d : Datum} {n : Int} (h : Is d n) : Isn d.opposite (-n) := by
  obtain ⟨s, m, k, rfl, b, _⟩ := h
  refine ⟨!s, m, k, rfl, ?_⟩
  rw [signed_zero] at b ⊢
  rw [Int.neg_mul, ← b]
  cases s <;> simp

theorem sum_is {d e : Datum} {a b : Int} (h : Is d a) (k : Isn e b) : ∃ r, d.sum e = some r ∧ Is r (a + b) := by
  obtain ⟨s, m, i, rfl, hv, hs⟩ := h
  obtain ⟨t, n, j, rfl, hw⟩ := k
  simp only [Datum.sum]
  refine ⟨_, rfl, ?_⟩
  have hb : min (-(i : Int)) (-(j : Int)) = -((max i j : Nat) : Int) := by omega
  rw [hb]
  have h1 : (-(i : Int) - -((max i j : Nat) : Int)).toNat = max i j - i := by omega
  have h2 : (-(j : Int) - -((max i j : Nat) : Int)).toNat = max i j - j := by omega
  rw [h1, h2, signed_up s, signed_up t, hv, hw]
  have e1 : a * 2 ^ i * 2 ^ (max i j - i) = a * 2 ^ (max i j) := by rw [Int.mul_assoc, ← Int.pow_add]; congr 2; omega
  have e2 : b * 2 ^ j * 2 ^ (max i j - j) = b * 2 ^ (max i j) := by rw [Int.mul_assoc, ← Int.pow_add]; congr 2; omega
  rw [e1, e2, ← Int.add_mul]
  generalize max i j = u at *
  refine ⟨_, _, _, rfl, ?_, ?_⟩
  · by_cases h0 : (a + b) * 2 ^ u = 0
    · rw [h0]; simp [signed]
    · rw [if_neg h0, signed_natAbs]
  · intro e
    have h0 : (a + b) * 2 ^ u = 0 := Int.natAbs_eq_zero.1 e
    rw [if_pos h0]
    cases hst : s with
    | false => rfl
    | true =>
      subst hst
      have hm0 : m ≠ 0 := fun e => by simpa using hs e
      rw [signed_zero] at hv hw
      have hp : (0 : Int) < 2 ^ u := Int.pow_pos (by decide)
      have hab : a + b = 0 := by
        rcases Int.mul_eq_zero.1 h0 with h | h
        · exact h
        · omega
      cases t with
      | false => rfl
      | true =>
        exfalso
        simp only [if_true] at hv hw
        have pi : (0 : Int) < 2 ^ i := Int.pow_pos (by decide)
        have pj : (0 : Int) < 2 ^ j := Int.pow_pos (by decide)
        have ha : a < 0 := by
          apply Int.not_le.1; intro hn
          have := Int.mul_nonneg hn (Int.le_of_lt pi)
          omega
        have hb : b ≤ 0 := by
          apply Int.not_lt.1; intro hn
          have := Int.mul_pos hn pj
          omega
        omega

theorem product_is {d e : Datum} {a b : Int} (h : Is d a) (k : Is e b) (hz : a * b = 0 → 0 ≤ a ∧ 0 ≤ b) : ∃ r, d.product e = some r ∧ Is r (a * b) := by
  obtain ⟨s, i, rfl, hs⟩ := h.mag
  obtain ⟨t, j, rfl, ht⟩ := k.mag
  refine ⟨_, rfl, s ^^ t, (a.natAbs * 2 ^ i) * (b.natAbs * 2 ^ j), i + j, by congr 1; omega, ?_, ?_⟩
  · have ea := signed_natAbs a
    have eb := signed_natAbs b
    rw [← hs] at ea
    rw [← ht] at eb
    rw [signed_zero] at ea eb ⊢
    conv => rhs; rw [← ea, ← eb]
    rw [Int.pow_add]
    have : ((a.natAbs * 2 ^ i * (b.natAbs * 2 ^ j) : Nat) : Int) = ((a.natAbs : Int) * b.natAbs) * (2 ^ i * 2 ^ j) := by
      simp [Int.mul_assoc, Int.mul_left_comm]
    rw [this]
    generalize (2 : Int) ^ i * 2 ^ j = p
    cases s <;> cases t <;> simp [Int.neg_mul, Int.mul_neg]
  · intro e
    have p1 := Nat.two_pow_pos i
    have p2 := Nat.two_pow_pos j
    have h0 : a * b = 0 := by
      rcases Nat.mul_eq_zero.1 e with h | h <;> rcases Nat.mul_eq_zero.1 h with h | h
      · rw [Int.natAbs_eq_zero.1 h, Int.zero_mul]
      · omega
      · rw [Int.natAbs_eq_zero.1 h, Int.mul_zero]
      · omega
    obtain ⟨ha, hb⟩ := hz h0
    have h1 : s = false := by rw [hs]; simpa using ha
    have h2 : t = false := by rw [ht]; simpa using hb
    rw [h1, h2]; rfl

theorem toInt_is {d : Datum} {n : Int} (h : Is d n) : d.toInt .zero = some n := by
  obtain ⟨s, k, rfl, hs⟩ := h.mag
  simp only [Datum.toInt, Datum.integral]
  have h1 : (-(k : Int)).toNat = 0 := by omega
  have h2 : (- -(k : Int)).toNat = k := by omega
  rw [h1, h2, Nat.shiftLeft_zero, cut_exact, hs, signed_natAbs]

theorem floor_is {d : Datum} {n : Int} (h : Is d n) : Is (d.integral .down) n := by
  obtain ⟨s, k, rfl, hs⟩ := h.mag
  simp only [Datum.integral]
  have h1 : (-(k : Int)).toNat = 0 := by omega
  have h2 : (- -(k : Int)).toNat = k := by omega
  rw [h1, h2, Nat.shiftLeft_zero, cut_exact, hs]
  refine ⟨_, _, 0, rfl, ?_, ?_⟩
  · rw [signed_natAbs]; simp
  · intro e
    have : n = 0 := Int.natAbs_eq_zero.1 e
    subst this; rfl

theorem cut_even (s : Bool) (n d : Nat) (h : d ≤ n.log2 + 2) : 2 * n ≤ 2 * 2 ^ d * Toward.even.cut s n d + 2 ^ d ∧ 2 * 2 ^ d * Toward.even.cut s n d ≤ 2 * n + 2 ^ d := by
  simp only [Toward.cut, Nat.one_shiftLeft, Nat.min_eq_left h]
  have hd := Nat.two_pow_pos d
  have e := Nat.div_add_mod n (2 ^ d)
  have l := Nat.mod_lt n hd
  generalize n % 2 ^ d = r at *
  generalize n / 2 ^ d = q at *
  generalize 2 ^ d = g at *
  rw [Nat.mul_add, Nat.mul_assoc 2 g q]
  generalize g * q = z at *
  cases hb : (decide (g < 2 * r) || (g == 2 * r && q % 2 == 1)) with
  | true =>
    have : g ≤ 2 * r := by
      rcases Bool.or_eq_true_iff.1 hb with h | h
      · exact Nat.le_of_lt (of_decide_eq_true h)
      · have := (Bool.and_eq_true_iff.1 h).1
        exact Nat.le_of_eq (by simpa using this)
    simp only [Bool.toNat_true, Nat.mul_one]
    omega
  | false =>
    have : ¬ g < 2 * r := of_decide_eq_false (Bool.or_eq_false_iff.1 hb).1
    simp only [Bool.toNat_false, Nat.mul_zero]
    omega

theorem nearest_round {s : Bool} {Q j lg : Nat} (hlg : Q.log2 = lg) (h52 : 52 ≤ lg) (hl : lg ≤ 100) (hj : j ≤ 100) (h0 : Q ≠ 0) (hk : Toward.even.cut s Q (lg - 52) ≤ 2 ^ 53) :
    dbl.nearest s Q (-(j : Int)) = dbl.word s ((1022 + lg - j) * 2 ^ 52 + Toward.even.cut s Q (lg - 52)) := by
  have hlast : max (-(j : Int) + (lg : Int) - ((52 : Nat) : Int)) (-1074) = -(j : Int) + (lg : Int) - 52 := by omega
  unfold Format.nearest
  rw [if_neg h0]
  simp only [hlg, dbl_least, dbl_binade, dbl_inf]
  rw [hlast]
  have e1 : (-(j : Int) - (-(j : Int) + (lg : Int) - 52)).toNat = 0 := by omega
  have e2 : (-(j : Int) + (lg : Int) - 52 - -(j : Int)).toNat = lg - 52 := by omega
  have e3 : (-(j : Int) + (lg : Int) - 52 - -1074).toNat = 1022 + lg - j := by omega
  rw [e1, e2, e3, Nat.shiftLeft_zero]
  congr 1
  refine Nat.min_eq_left ?_
  have a1 : (1022 + lg - j + 2) * 2 ^ 52 ≤ 2047 * 2 ^ 52 := Nat.mul_le_mul_right _ (by omega)
  have a2 : (1022 + lg - j + 2) * 2 ^ 52 = (1022 + lg - j) * 2 ^ 52 + 2 ^ 53 := by rw [Nat.add_mul]
  exact Nat.le_trans (Nat.add_le_add_left hk _) (by rw [← a2]; exact a1)

theorem place_neg {E : Nat} (h : E ≤ 1074) : (E : Int) - 1074 = -((1074 - E : Nat) : Int) := by
  rw [Int.ofNat_sub h]
  generalize (E : Int) = x
  show x - 1074 = -(1074 - x)
  omega
theorem place_neg1 {E : Nat} (h : E ≤ 1073) : ((E + 1 : Nat) : Int) - 1074 = -((1073 - E : Nat) : Int) := by
  rw [Int.ofNat_sub h, Int.natCast_add]
  generalize (E : Int) = x
  show x + 1 - 1074 = -(1073 - x)
  omega
theorem split1 {E : Nat} (h : E ≤ 1073) : 1074 - E = 1073 - E + 1 := by omega
theorem bne_mul {a p : Nat} (hp : 0 < p) : (a * p != 0) = (a != 0) := by
  cases a with
  | zero => rw [Nat.zero_mul]
  | succ a =>
    have : (a + 1) * p ≠ 0 := Nat.ne_of_gt (Nat.mul_pos (Nat.succ_pos a) hp)
    rw [bne_iff_ne.2 this]
    rfl
theorem read_kept {s : Bool} {E K : Nat} (h1 : 2 ^ 52 ≤ K) (h2 : K ≤ 2 ^ 53) (hE : E ≤ 1073) : ∃ M e u, dbl.read (dbl.word s (E * 2 ^ 52 + K)) = .number s M (-(e : Nat) : Int) ∧ K = M * 2 ^ u ∧ 1074 - E = e + u ∧ 0 < M := by
  by_cases h : K < 2 ^ 53
  · refine ⟨K, 1074 - E, 0, ?_, by simp, rfl, Nat.lt_of_lt_of_le (by decide) h1⟩
    rw [read_rung h1 h (by omega), place_neg (by omega)]
  · have hK : K = 2 ^ 53 := Nat.le_antisymm h2 (Nat.not_lt.1 h)
    subst hK
    refine ⟨2 ^ 52, 1073 - E, 1, ?_, by decide, split1 hE, by decide⟩
    have : E * 2 ^ 52 + 2 ^ 53 = (E + 1) * 2 ^ 52 + 2 ^ 52 := by
      have e : (2 : Nat) ^ 53 = 2 ^ 52 + 2 ^ 52 := by decide
      rw [e, Nat.add_mul, Nat.one_mul, Nat.add_assoc]
    rw [this, read_rung (Nat.le_refl _) (by decide) (by omega), place_neg1 hE]

theorem floor_kept {s : Bool} {K M e u t : Nat} (hK : K = M * 2 ^ u) (ht : t = e + u) : (Datum.number s M (-(e : Nat) : Int)).integral .down = .number s (K / 2 ^ t + (s && K % 2 ^ t != 0).toNat) 0 := by
  have hu := Nat.two_pow_pos u
  simp only [Datum.integral]
  have h1 : (-(e : Int)).toNat = 0 := by omega
  have h2 : (- -(e : Int)).toNat = e := by omega
  rw [h1, h2, Nat.shiftLeft_zero, cut_down]
  have a : K / 2 ^ t = M / 2 ^ e := by rw [hK, ht, Nat.pow_add, Nat.mul_div_mul_right _ _ hu]
  have b : (K % 2 ^ t != 0) = (M % 2 ^ e != 0) := by
    rw [hK, ht, Nat.pow_add, Nat.mul_mod_mul_right, bne_mul hu]
  rw [a, b]

/-- What the quotient, rounded, lies between. -/
theorem ar {R c r Q K d g : Nat} (hR : 2 ^ 36 ≤ R) (hr0 : 0 < r) (hr : r < 10007) (hQ : Q = 2 * ((10007 * c + r) * (8 * R) / 10007) + d) (hd : d ≤ 1)
    (hk1 : 2 * Q ≤ 2 * g * K + g) (hk2 : 2 * g * K ≤ 2 * Q + g) (hg : g = 4 ∨ g = 8) : c * (16 * R / g) < K ∧ K < (c + 1) * (16 * R / g) := by
  have e1 : (10007 * c + r) * (8 * R) = 80056 * (c * R) + 8 * (r * R) := by
    rw [Nat.add_mul, Nat.mul_assoc 10007, Nat.mul_left_comm c, Nat.mul_left_comm r]; omega
  rw [e1] at hQ
  have l1 : 1 * R ≤ r * R := Nat.mul_le_mul_right _ hr0
  have l2 : r * R ≤ 10006 * R := Nat.mul_le_mul_right _ (by omega)
  rcases hg with rfl | rfl
  · have e2 : 16 * R / 4 = 4 * R := by omega
    rw [e2, Nat.add_mul, Nat.mul_left_comm c]
    generalize c * R = Z at *
    generalize r * R = Y at *
    omega
  · have e2 : 16 * R / 8 = 2 * R := by omega
    rw [e2, Nat.add_mul, Nat.mul_left_comm c]
    generalize c * R = Z at *
    generalize r * R = Y at *
    omega

theorem read_P : dbl.read (F 10007) = .number false (10007 * 2 ^ 39) (-39) := by decide
theorem log_P : (10007 * 2 ^ 39).log2 = 52 := by decide
theorem div_zero : dbl.div (F 0) (F 10007) = some 0 := by decide
theorem zero_floor_any (e : Nat) : (Datum.number false 0 (-(e : Nat) : Int)).integral .down = .number false 0 0 := by
  have h := floor_kept (s := false) (K := 0) (M := 0) (e := e) (u := 0) (t := e) (Nat.zero_mul _).symm rfl
  rw [Nat.zero_div, Bool.false_and] at h
  exact h
theorem zero_read : dbl.read 0 = .number false 0 (-(1074 : Nat) : Int) := by decide
theorem zero_floor : (dbl.read 0).integral .down = .number false 0 0 := by
  rw [zero_read]
  exact zero_floor_any 1074
theorem floor_val {a : Int} {c r N : Nat} {s : Bool} (hs : s = decide (a < 0)) (hN : N = a.natAbs) (h : N = 10007 * c + r) (hr : r < 10007) (b : Bool) (hb : b = (r != 0)) :
    signed s (c + (s && b).toNat) 0 = a / 10007 := by
  rw [signed_zero, hs]
  subst hb
  by_cases ha : a < 0
  · simp only [ha, decide_true, if_true, Bool.true_and]
    by_cases h0 : r = 0
    · simp [h0]; omega
    · have : (r != 0) = true := by simpa using h0
      rw [this]; simp; omega
  · simp only [ha, decide_false, Bool.false_eq_true, if_false, Bool.false_and, Bool.toNat_false]
    omega

theorem between {K c t : Nat} (h1 : c * 2 ^ t < K) (h2 : K < (c + 1) * 2 ^ t) : K / 2 ^ t = c ∧ (K % 2 ^ t != 0) = true := by
  have hd : K / 2 ^ t = c := Nat.div_eq_of_lt_le (Nat.le_of_lt h1) h2
  refine ⟨hd, ?_⟩
  have := Nat.div_add_mod K (2 ^ t)
  rw [hd, Nat.mul_comm] at this
  have : K % 2 ^ t ≠ 0 := by omega
  simpa using this

theorem quot_eq {d more : Nat} {s t : Bool} {m n : Nat} {i j : Int} (hn : n ≠ 0) (hm : d + n.log2 - m.log2 = more) :
    (Datum.number s m i).quotient d (.number t n j) = some (.number (s ^^ t) (2 * (m <<< more / n) + (m <<< more % n != 0).toNat) (i - j - more - 1)) := by
  subst hm
  simp only [Datum.quotient, if_neg hn]
theorem place_q {L : Nat} (h : L ≤ 28) : -((52 - L : Nat) : Int) - -39 - (54 : Nat) - 1 = -((68 - L : Nat) : Int) := by
  rw [Int.ofNat_sub (by omega), Int.ofNat_sub (by omega)]
  generalize (L : Int) = x
  show -(52 - x) - -39 - 54 - 1 = -(68 - x)
  omega
theorem P_ne : (10007 * 2 ^ 39 : Nat) ≠ 0 := by decide
theorem more_eq {m : Nat} (hm : m.log2 = 52) : 54 + (10007 * 2 ^ 39).log2 - m.log2 = 54 := by rw [log_P, hm]

theorem hs_eq {L lg : Nat} (hL : L ≤ 28) (hl : lg = 54 ∨ lg = 55) : 120 - L - lg + (lg - 52) = 4 + (64 - L) := by omega
theorem ht_eq {L lg : Nat} (hL : L ≤ 28) (_hl : lg = 54 ∨ lg = 55) : 1074 - (1022 + lg - (68 - L)) = 120 - L - lg := by omega
theorem hg_eq {L lg : Nat} (hL : L ≤ 28) (hl : lg = 54 ∨ lg = 55) : 16 * 2 ^ (64 - L) / 2 ^ (lg - 52) = 2 ^ (120 - L - lg) := by
  have e16 : (16 : Nat) = 2 ^ 4 := rfl
  rw [e16, ← Nat.pow_add, ← hs_eq hL hl, Nat.pow_add, Nat.mul_div_cancel _ (Nat.two_pow_pos _)]
theorem ne_neg {a : Int} (h : a < 0) : signed true 0 0 ≠ a / 10007 := by
  rw [signed_zero]
  simp
  omega
theorem natAbs_le {a : Int} {N : Nat} (h : a.natAbs = N) : (a / 10007).natAbs ≤ N := by omega

/-- The quotient by the prime, made whole from above, is the whole quotient. -/
theorem div_floor {a : Int} (hb : a.natAbs < 2 ^ 29) : ∃ q, dbl.div (F a) (F 10007) = some q ∧ (∃ s m e, dbl.read q = .number s m e) ∧ dbl.write ((dbl.read q).integral .down) = F (a / 10007) := by
  by_cases h0 : a = 0
  · subst h0
    refine ⟨0, div_zero, ⟨false, 0, -1074, by decide⟩, ?_⟩
    rw [zero_floor]; decide
  · have hb53 : a.natAbs < 2 ^ 53 := Nat.lt_of_lt_of_le hb (by decide)
    have hp : 0 < a.natAbs := by omega
    obtain ⟨l1, l2⟩ := log_ex _ hp
    have hL : a.natAbs.log2 ≤ 28 := log_le hp hb
    obtain ⟨s1, s2⟩ := scale l1 l2 (by omega)
    have hm : (a.natAbs * 2 ^ (52 - a.natAbs.log2)).log2 = 52 := log2_eq s1 s2
    have hr := read_F h0 hb53
    generalize hN : a.natAbs = N at *
    generalize N.log2 = L at *
    generalize hs : decide (a < 0) = s at *
    -- the dividend
    have hR : (2:Nat) ^ 36 ≤ 2 ^ (64 - L) := Nat.pow_le_pow_right (by decide) (by omega)
    have hR0 : (2:Nat) ^ (67 - L) = 8 * 2 ^ (64 - L) := by rw [pow_split (show 67 - L = 3 + (64 - L) by omega)]
    have hdv : (N * 2 ^ (52 - L)) <<< 54 = (N * (8 * 2 ^ (64 - L))) * 2 ^ 39 := by
      rw [Nat.shiftLeft_eq, Nat.mul_assoc, Nat.mul_assoc, ← Nat.pow_add, ← hR0, ← Nat.pow_add]
      congr 2; omega
    have hq1 : (N * 2 ^ (52 - L)) <<< 54 / (10007 * 2 ^ 39) = N * (8 * 2 ^ (64 - L)) / 10007 := by
      rw [hdv, Nat.mul_div_mul_right _ _ (Nat.two_pow_pos 39)]
    have hq2 : ((N * 2 ^ (52 - L)) <<< 54 % (10007 * 2 ^ 39) != 0) = (N * (8 * 2 ^ (64 - L)) % 10007 != 0) := by
      rw [hdv, Nat.mul_mod_mul_right, bne_mul (Nat.two_pow_pos 39)]
    have hdiv : (dbl.read (F a)).quotient 54 (dbl.read (F 10007)) = some (.number s (2 * (N * (8 * 2 ^ (64 - L)) / 10007) + (N * (8 * 2 ^ (64 - L)) % 10007 != 0).toNat) (-((68 - L : Nat) : Int))) := by
      rw [hr, read_P]
      rw [quot_eq P_ne (more_eq hm), hq1, hq2, place_q hL, Bool.xor_false]
    generalize hQ : 2 * (N * (8 * 2 ^ (64 - L)) / 10007) + (N * (8 * 2 ^ (64 - L)) % 10007 != 0).toNat = Q at *
    have hbit : (N * (8 * 2 ^ (64 - L)) % 10007 != 0).toNat ≤ 1 := Bool.toNat_le _
    -- how great it is
    have hlow : (2:Nat) ^ 67 ≤ N * (8 * 2 ^ (64 - L)) := by
      rw [← hR0]
      have := Nat.mul_le_mul_right (2 ^ (67 - L)) l1
      rwa [← Nat.pow_add, show L + (67 - L) = 67 by omega] at this
    have hhigh : N * (8 * 2 ^ (64 - L)) < 2 ^ 68 := by
      rw [← hR0]
      have := Nat.mul_lt_mul_of_pos_right l2 (Nat.two_pow_pos (67 - L))
      rwa [← Nat.pow_add, show L + 1 + (67 - L) = 68 by omega] at this
    have hlog : Q.log2 = 54 ∨ Q.log2 = 55 := by
      have b1 : 2 ^ 54 ≤ Q := by
        generalize N * (8 * 2 ^ (64 - L)) = A at *
        omega
      have b2 : Q < 2 ^ 56 := by
        generalize N * (8 * 2 ^ (64 - L)) = A at *
        omega
      by_cases h : Q < 2 ^ 55
      · exact .inl (log2_eq b1 h)
      · exact .inr (log2_eq (Nat.not_lt.1 h) b2)
    have hQ0 : Q ≠ 0 := by
      intro e
      subst e
      rcases hlog with h | h <;> exact absurd h (by decide)
    obtain ⟨lg, hlg, hl⟩ : ∃ lg, Q.log2 = lg ∧ (lg = 54 ∨ lg = 55) := ⟨_, rfl, hlog⟩
    have hQb : 2 ^ lg ≤ Q ∧ Q < 2 ^ (lg + 1) := by
      rw [← hlg]; exact log_ex Q (Nat.pos_of_ne_zero hQ0)
    have hce := cut_even s Q (lg - 52) (by omega)
    have hkb : 2 ^ 52 ≤ Toward.even.cut s Q (lg - 52) ∧ Toward.even.cut s Q (lg - 52) ≤ 2 ^ 53 := by
      generalize Toward.even.cut s Q (lg - 52) = K at *
      rcases hl with rfl | rfl
      · have e1 : (2:Nat) ^ (54 - 52) = 4 := rfl
        rw [e1] at hce
        omega
      · have e1 : (2:Nat) ^ (55 - 52) = 8 := rfl
        rw [e1] at hce
        omega
    obtain ⟨M, e, u, hread, hK, ht, hM⟩ := read_kept (s := s) (E := 1022 + lg - (68 - L)) hkb.1 hkb.2 (by omega)
    have hnear := nearest_round (s := s) (j := 68 - L) hlg (by omega) (by omega) (by omega) hQ0 hkb.2
    refine ⟨dbl.word s ((1022 + lg - (68 - L)) * 2 ^ 52 + Toward.even.cut s Q (lg - 52)), ?_, ⟨_, _, _, hread⟩, ?_⟩
    · show ((dbl.read (F a)).quotient 54 (dbl.read (F 10007))).map dbl.write = _
      rw [hdiv]
      exact congrArg some hnear
    · rw [hread, floor_kept hK ht]
      generalize hKK : Toward.even.cut s Q (lg - 52) = K at *
      have ht' : 1074 - (1022 + lg - (68 - L)) = 120 - L - lg := ht_eq hL hl
      rw [ht']
      have hg : 16 * 2 ^ (64 - L) / 2 ^ (lg - 52) = 2 ^ (120 - L - lg) := hg_eq hL hl
      obtain ⟨c, r, hcr, hr7⟩ : ∃ c r, N = 10007 * c + r ∧ r < 10007 := ⟨N / 10007, N % 10007, (Nat.div_add_mod N 10007).symm, Nat.mod_lt _ (by decide)⟩
      have key : K / 2 ^ (120 - L - lg) = c ∧ (K % 2 ^ (120 - L - lg) != 0) = (r != 0) := by
        by_cases hr0 : r = 0
        · have hx : Q = (c * 2 ^ (120 - L - lg)) * 2 ^ (lg - 52) := by
            rw [Nat.mul_assoc, ← Nat.pow_add, hs_eq hL hl, Nat.pow_add]
            rw [← hQ, hcr, hr0]
            rw [show (10007 * c + 0) * (8 * 2 ^ (64 - L)) = 10007 * (c * (8 * 2 ^ (64 - L))) by rw [Nat.add_zero, Nat.mul_assoc]]
            rw [Nat.mul_div_cancel_left _ (by decide), Nat.mul_mod_right]
            simp only [bne_self_eq_false, Bool.toNat_false, Nat.add_zero]
            rw [Nat.mul_left_comm 2 c, ← Nat.mul_assoc 2 8]
          have : K = c * 2 ^ (120 - L - lg) := by rw [← hKK, hx, cut_exact]
          rw [this, Nat.mul_div_cancel _ (Nat.two_pow_pos _), Nat.mul_mod_left, hr0]
          exact ⟨rfl, rfl⟩
        · have hne : (r != 0) = true := by simpa using hr0
          rw [hne]
          have := ar (c := c) (r := r) (Q := Q) (K := K) (g := 2 ^ (lg - 52)) hR (Nat.pos_of_ne_zero hr0) hr7 (by rw [← hQ, hcr]) hbit hce.1 hce.2 (by rcases hl with rfl | rfl; exact .inl rfl; exact .inr rfl)
          rw [hg] at this
          exact between this.1 this.2
      rw [key.1, key.2]
      have hv := floor_val hs.symm hN.symm hcr hr7 (r != 0) rfl
      rw [← hv]
      refine write_is ⟨_, _, 0, rfl, by rw [hv]; simp, ?_⟩ ?_
      · intro e
        cases hs' : s with
        | false => rfl
        | true =>
          exfalso
          subst hs'
          have ha : a < 0 := of_decide_eq_true hs
          exact absurd hv (by rw [e]; exact ne_neg ha)
      · rw [hv]
        exact Nat.lt_of_le_of_lt (natAbs_le hN) (Nat.lt_of_lt_of_le hb (by decide))
end Fl
