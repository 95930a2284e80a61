/- The order of texts by their bytes, and of numbers' bytes. No program is named here. -/
import Derived.Test.YtkkiedmcpibnaaaDoorDigMath
namespace Dg

/-- Is a text ahead of another one, by their bytes? -/
def less : List UInt8 → List UInt8 → Bool
  | [], [] => false
  | [], _ :: _ => true
  | _ :: _, [] => false
  | x :: a, y :: b => if x = y then less a b else decide (x.toNat < y.toNat)

theorem foldl_ofB (l : List UInt8) (v : Nat) : l.foldl (fun v b => v * 256 + b.toNat) v = v * 256 ^ l.length + ofB l := by
  induction l generalizing v with
  | nil => simp [ofB]
  | cons b l ih =>
    simp only [ofB, List.foldl_cons, List.length_cons]
    rw [ih, ih]
    simp only [Nat.zero_mul, Nat.zero_add, Nat.pow_succ, Nat.add_mul]
    rw [Nat.mul_assoc, Nat.mul_comm 256]
    omega
theorem ofB_cons (b : UInt8) (l : List UInt8) : ofB (b :: l) = b.toNat * 256 ^ l.length + ofB l := by
  rw [ofB, List.foldl_cons, foldl_ofB]; simp

theorem less_eqlen (a b : List UInt8) (h : a.length = b.length) : less a b = decide (ofB a < ofB b) := by
  induction a generalizing b with
  | nil => cases b with
    | nil => simp [less]
    | cons => simp at h
  | cons x a ih => cases b with
    | nil => simp at h
    | cons y b =>
      simp only [List.length_cons, Nat.add_right_cancel_iff] at h
      rw [less, ofB_cons, ofB_cons, h]
      have ha := ofB_lt a
      have hb := ofB_lt b
      rw [h] at ha
      split
      · rename_i e
        subst e
        rw [ih b h]
        congr 1
        simp
      · rename_i ne
        have ne' : x.toNat ≠ y.toNat := fun e => ne (UInt8.toNat_inj.1 e)
        rcases Nat.lt_or_gt_of_ne ne' with hlt | hgt
        · have := Nat.mul_le_mul_right (256 ^ b.length) (show x.toNat + 1 ≤ y.toNat from hlt)
          rw [Nat.add_mul] at this
          simp only [hlt, decide_true]
          symm; rw [decide_eq_true_iff]; omega
        · have := Nat.mul_le_mul_right (256 ^ b.length) (show y.toNat + 1 ≤ x.toNat from hgt)
          rw [Nat.add_mul] at this
          rw [decide_eq_false (by omega)]
          symm; rw [decide_eq_false_iff_not]; omega

theorem ofB_bytesF (k v : Nat) (h : v < 256 ^ k) : ofB (bytesF k v) = v := by
  induction k generalizing v with
  | zero => simp at h; subst h; simp [bytesF, ofB]
  | succ k ih =>
    by_cases h0 : v = 0
    · subst h0; simp [bytesF_zero, ofB]
    · rw [bytesF_step k v h0, ofB_snoc, ih _ (by rw [Nat.pow_succ] at h; omega)]
      simp; omega
theorem ofB_bytes (v : Nat) (h : v < 18446744073709551616) : ofB (bytes v) = v := ofB_bytesF 8 v (by omega)

theorem bytesF_head (k v : Nat) (h : v < 256 ^ k) : (bytesF k v).headD 1 ≠ 0 := by
  induction k generalizing v with
  | zero => simp [bytesF]
  | succ k ih =>
    by_cases h0 : v = 0
    · subst h0; simp [bytesF_zero]
    · rw [bytesF_step k v h0]
      have ih' := ih (v / 256) (by rw [Nat.pow_succ] at h; omega)
      cases hb : bytesF k (v / 256) with
      | nil =>
        have hz := ofB_bytesF k (v / 256) (by rw [Nat.pow_succ] at h; omega)
        rw [hb] at hz
        simp [ofB] at hz
        simp only [List.nil_append, List.headD_cons]
        intro e
        have := congrArg UInt8.toNat e
        simp at this
        omega
      | cons x l => rw [hb] at ih'; simpa using ih'
theorem bytes_head (v : Nat) (h : v < 18446744073709551616) : (bytes v).headD 1 ≠ 0 := bytesF_head 8 v (by omega)

theorem ofB_ge (l : List UInt8) (h : l.headD 1 ≠ 0) (hl : l ≠ []) : 256 ^ (l.length - 1) ≤ ofB l := by
  cases l with
  | nil => simp at hl
  | cons b l =>
    rw [ofB_cons]
    have : 1 ≤ b.toNat := by
      rcases Nat.eq_zero_or_pos b.toNat with e | e
      · exact absurd (UInt8.toNat_inj.1 (by simpa using e) : b = 0) (by simpa using h)
      · exact e
    have := Nat.mul_le_mul_right (256 ^ l.length) this
    simp only [List.length_cons, Nat.add_sub_cancel]
    omega

theorem bytes_shorter (v w : Nat) (hv : v < 18446744073709551616) (hw : w < 18446744073709551616) (h : (bytes v).length < (bytes w).length) : v < w := by
  have h1 := ofB_lt (bytes v)
  have h2 := ofB_ge (bytes w) (bytes_head w hw) (by intro e; rw [e] at h; simp at h)
  rw [ofB_bytes v hv] at h1
  rw [ofB_bytes w hw] at h2
  have := Nat.pow_le_pow_right (n := 256) (by omega) (show (bytes v).length ≤ (bytes w).length - 1 by omega)
  omega

theorem less_num (v w : Nat) (hv : v < 18446744073709551616) (hw : w < 18446744073709551616) : less (num v) (num w) = decide (v < w) := by
  have lv := bytes_len v
  have lw := bytes_len w
  rw [num, num, less]
  have ev : (UInt8.ofNat (bytes v).length).toNat = (bytes v).length := by rw [UInt8.toNat_ofNat']; omega
  have ew : (UInt8.ofNat (bytes w).length).toNat = (bytes w).length := by rw [UInt8.toNat_ofNat']; omega
  split
  · rename_i e
    have e' : (bytes v).length = (bytes w).length := by rw [← ev, ← ew, e]
    rw [less_eqlen _ _ e', ofB_bytes v hv, ofB_bytes w hw]
  · rename_i ne
    rw [ev, ew]
    rcases Nat.lt_trichotomy (bytes v).length (bytes w).length with h | h | h
    · rw [decide_eq_true h]
      symm; rw [decide_eq_true_iff]; exact bytes_shorter v w hv hw h
    · rw [h] at ne; exact absurd rfl ne
    · have := bytes_shorter w v hw hv h
      rw [decide_eq_false (by omega)]
      symm; rw [decide_eq_false_iff_not]; omega

theorem num_inj (v w : Nat) (hv : v < 18446744073709551616) (hw : w < 18446744073709551616) (h : num v = num w) : v = w := by
  rw [num, num, List.cons.injEq] at h
  rw [← ofB_bytes v hv, ← ofB_bytes w hw, h.2]
end Dg
