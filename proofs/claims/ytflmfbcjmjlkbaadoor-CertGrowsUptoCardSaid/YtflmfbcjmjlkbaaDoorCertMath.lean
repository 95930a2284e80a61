/- Proofs, and who has sealed what: plain functions. No program is named here. -/
import Derived.Test.YtflmfbcjmjlkbaaDoorVtxMath
import Derived.Test.YtflmfbcjmjlkbaaDoorBookMath
import Derived.Test.YtflmfbcjmjlkbaaDoorSeatMath2
import Derived.Test.YtflmfbcjmjlkbaaDoorShaMath
namespace Cr
open Dg

def hd (d : List UInt8) : List UInt8 := 104 :: d
def yd (d : List UInt8) : List UInt8 := 121 :: d
def od (d : List UInt8) : List UInt8 := 111 :: d
def vdig (v : Vt.Vtx) : List UInt8 := Sh.sum (118 :: Vt.bytes v)
def bdig (b : Bt.Bat) : List UInt8 := Sh.sum (98 :: Bt.bytes b)
/-- A vertex, and the set of those who have voted for it. -/
abbrev Prf := Vt.Vtx × Nat
def enough (n : Int) (x : Nat) : Nat := if Se.within x n = true then (if (Se.count x : Int) < Se.quorum n then 2 else 0) else 4
noncomputable def fits (p : Prf) (n : Int) : Nat := if Vt.may p.1 n = true then enough n p.2 else 1
noncomputable def check (n : Int) (b : List Bk.Sl) (p : Prf) : Nat := if fits p n = 0 then (if Bk.all b p.2 (yd (vdig p.1)) = true then 0 else 10) else fits p n
def signedB (b : List Bk.Sl) (l : List Bt.Bat) : Bool := decide (∀ x ∈ l, Bk.has b (x.1, od (bdig x)) = true)
def signed (b : List Bk.Sl) (v : Vt.Vtx) : Bool := Bk.has b (v.1, hd (vdig v)) && signedB b v.2.2.1
noncomputable def sealedC (n : Int) (b : List Bk.Sl) (v : Vt.Vtx) : Nat := if Vt.may v n = true then (if signed b v = true then 0 else 10) else 1

theorem enough_err (n : Int) (x : Nat) : enough n x = 0 ∨ enough n x = 2 ∨ enough n x = 4 := by
  unfold enough
  split
  · split <;> simp
  · simp
theorem fits_err (p : Prf) (n : Int) : fits p n = 0 ∨ fits p n = 1 ∨ fits p n = 2 ∨ fits p n = 4 := by
  unfold fits
  split
  · rcases enough_err n p.2 with h | h | h <;> rw [h] <;> simp
  · simp
theorem fits_zero {p : Prf} {n : Int} (h : fits p n = 0) : Vt.may p.1 n = true ∧ enough n p.2 = 0 := by
  unfold fits at h
  split at h
  · rename_i hm; exact ⟨hm, h⟩
  · simp at h
theorem enough_zero {n : Int} {x : Nat} (h : enough n x = 0) : Se.within x n = true ∧ Se.quorum n ≤ Se.count x := by
  unfold enough at h
  split at h
  · rename_i hw
    split at h
    · simp at h
    · exact ⟨hw, by omega⟩
  · simp at h
theorem enough_of {n : Int} {x : Nat} (hw : Se.within x n = true) (hq : Se.quorum n ≤ Se.count x) : enough n x = 0 := by
  unfold enough; rw [if_pos hw, if_neg (by omega)]
theorem fits_of {p : Prf} {n : Int} (hm : Vt.may p.1 n = true) : fits p n = enough n p.2 := by unfold fits; rw [if_pos hm]
theorem check_ok {n : Int} {b : List Bk.Sl} {p : Prf} (h : fits p n = 0) : check n b p = if Bk.all b p.2 (yd (vdig p.1)) = true then 0 else 10 := by unfold check; rw [if_pos h]
theorem check_no {n : Int} {b : List Bk.Sl} {p : Prf} (h : fits p n ≠ 0) : check n b p = fits p n := by unfold check; rw [if_neg h]
theorem check_zero {n : Int} {b : List Bk.Sl} {p : Prf} (h : check n b p = 0) : fits p n = 0 ∧ Bk.all b p.2 (yd (vdig p.1)) = true := by
  by_cases hf : fits p n = 0
  · rw [check_ok hf] at h
    split at h
    · rename_i ha; exact ⟨hf, ha⟩
    · simp at h
  · rw [check_no hf] at h; exact absurd h hf
theorem check_of {n : Int} {b : List Bk.Sl} {p : Prf} (h : fits p n = 0) (ha : Bk.all b p.2 (yd (vdig p.1)) = true) : check n b p = 0 := by rw [check_ok h, if_pos ha]
theorem check_err (n : Int) (b : List Bk.Sl) (p : Prf) : check n b p = 0 ∨ check n b p = 1 ∨ check n b p = 2 ∨ check n b p = 4 ∨ check n b p = 10 := by
  by_cases hf : fits p n = 0
  · rw [check_ok hf]; split <;> simp
  · rw [check_no hf]; rcases fits_err p n with h | h | h | h <;> rw [h] <;> simp

/-- A set of one. -/
theorem of_one (i : Int) (h : 1 ≤ i ∧ i ≤ 64) : Se.of [i] = (Se.put 0 i.toNat, 0) := by
  unfold Se.of
  rw [Se.ofL_put _ _ _ h]
  rfl
theorem all_one (b : List Bk.Sl) (i : Int) (t : List UInt8) (h : 1 ≤ i ∧ i ≤ 64) : Bk.all b (Se.put 0 i.toNat) t = Bk.has b (i, t) := by
  rw [Bool.eq_iff_iff, Bk.all_iff]
  unfold Bk.has
  rw [decide_eq_true_iff]
  have e : ((i.toNat - 1 : Nat) : Int) + 1 = i := by omega
  constructor
  · intro hh
    have := hh (i.toNat - 1) (by omega) (by rw [Se.put_bit]; simp)
    rwa [e] at this
  · intro hh k hk hb
    rw [Se.put_bit] at hb
    simp only [Nat.zero_testBit, Bool.false_or, decide_eq_true_iff] at hb
    rw [← hb, e]
    exact hh
theorem all_sub (b : List Bk.Sl) (x y : Nat) (t : List UInt8) (h : ∀ i, y.testBit i = true → x.testBit i = true) (ha : Bk.all b x t = true) : Bk.all b y t = true := by
  rw [Bk.all_iff] at ha ⊢
  exact fun i hi hb => ha i hi (h i hb)

/-- Two certificates that pass. -/
theorem meet {n : Int} {b : List Bk.Sl} {p q : Prf} (hp : check n b p = 0) (hq : check n b q = 0) :
    Se.weak n ≤ Se.count (p.2 &&& q.2) ∧ Bk.all b (p.2 &&& q.2) (yd (vdig p.1)) = true ∧ Bk.all b (p.2 &&& q.2) (yd (vdig q.1)) = true := by
  obtain ⟨f1, a1⟩ := check_zero hp
  obtain ⟨f2, a2⟩ := check_zero hq
  obtain ⟨m1, e1⟩ := fits_zero f1
  obtain ⟨m2, e2⟩ := fits_zero f2
  obtain ⟨w1, q1⟩ := enough_zero e1
  obtain ⟨w2, q2⟩ := enough_zero e2
  have hn : Se.may n = true := by
    simp only [Vt.may, Bool.and_eq_true] at m1; exact m1.1
  refine ⟨Se.meet_quorum n _ _ hn w1 w2 q1 q2, all_sub b p.2 _ _ (fun i h => ?_) a1, all_sub b q.2 _ _ (fun i h => ?_) a2⟩
  · rw [Nat.testBit_and, Bool.and_eq_true] at h; exact h.1
  · rw [Nat.testBit_and, Bool.and_eq_true] at h; exact h.2
/-- More seals. -/
theorem grows {n : Int} {b c : List Bk.Sl} {p : Prf} (h : ∀ x ∈ b, x ∈ c) (hp : check n b p = 0) : check n c p = 0 := by
  obtain ⟨f, a⟩ := check_zero hp
  exact check_of f (Bk.all_grows b c _ _ h a)
theorem sealed_grows {n : Int} {b c : List Bk.Sl} {v : Vt.Vtx} (h : ∀ x ∈ b, x ∈ c) (hp : sealedC n b v = 0) : sealedC n c v = 0 := by
  unfold sealedC at hp ⊢
  split at hp
  · rename_i hm
    rw [if_pos hm]
    split at hp
    · rename_i hs
      have : signed c v = true := by
        simp only [signed, signedB, Bool.and_eq_true, decide_eq_true_iff, Bk.has] at hs ⊢
        exact ⟨h _ hs.1, fun x hx => h _ (hs.2 x hx)⟩
      rw [if_pos this]
    · simp at hp
  · simp at hp
theorem sub_bit (x y i : Nat) (h : (x - (x &&& y)).testBit i = true) : x.testBit i = true := by
  rw [Se.sub_and, Nat.testBit_xor, Nat.testBit_and] at h
  cases hx : x.testBit i with
  | true => rfl
  | false => rw [hx] at h; simp at h
theorem within_sub (x y : Nat) (n : Int) (hw : Se.within x n = true) : Se.within (x - (x &&& y)) n = true := by
  have hr : 0 ≤ n ∧ n ≤ 64 := by
    simp only [Se.within, Bool.and_eq_true, decide_eq_true_iff] at hw; exact hw.1
  rw [Se.within_iff _ _ hr] at hw ⊢
  intro i hi
  rw [Se.list_mem] at hi
  exact hw i ((Se.list_mem _ _).2 ⟨hi.1, hi.2.1, sub_bit _ _ _ hi.2.2⟩)
theorem fewer {n : Int} {b : List Bk.Sl} {p : Prf} (l : Nat) (hp : check n b p = 0) :
    Se.quorum n ≤ Se.count p.2 ∧ check n b (p.1, p.2 - (p.2 &&& l)) = if Se.quorum n ≤ Se.count (p.2 - (p.2 &&& l)) then 0 else 2 := by
  obtain ⟨f, a⟩ := check_zero hp
  obtain ⟨m, e⟩ := fits_zero f
  obtain ⟨w, q⟩ := enough_zero e
  refine ⟨q, ?_⟩
  have w2 := within_sub p.2 l n w
  have hf : fits (p.1, p.2 - (p.2 &&& l)) n = enough n (p.2 - (p.2 &&& l)) := fits_of (p := (p.1, p.2 - (p.2 &&& l))) m
  split
  · rename_i hq
    have := enough_of w2 hq
    refine check_of (hf.trans this) (all_sub b p.2 _ _ (fun i h => sub_bit _ _ _ h) a)
  · rename_i hq
    have : enough n (p.2 - (p.2 &&& l)) = 2 := by unfold enough; rw [if_pos w2, if_pos (by omega)]
    rw [check_no (by rw [hf, this]; omega), hf, this]

/-- A proof's bytes. -/
def bytes (p : Prf) : List UInt8 := text (Vt.bytes p.1) ++ num p.2
noncomputable def bytesR (p : Prf) (n : Int) : List UInt8 × Nat := if fits p n = 0 then (bytes p, 0) else ([], fits p n)
theorem bytesR_ok {p : Prf} {n : Int} (h : fits p n = 0) : bytesR p n = (bytes p, 0) := by rw [bytesR, if_pos h]
theorem bytesR_no {p : Prf} {n : Int} (h : fits p n ≠ 0) : bytesR p n = ([], fits p n) := by rw [bytesR, if_neg h]
theorem parts {p : Prf} {n : Int} (h : fits p n = 0) (hx : p.2 < 18446744073709551616) (more : List UInt8) (most : Int) (hm : 4600 ≤ most ∨ ((bytes p ++ more).length : Int) ≤ most) :
    takeText (bytes p ++ more) most = (Vt.bytes p.1, num p.2 ++ more, 0) ∧ takeNum (num p.2 ++ more) = (p.2, more, 0) := by
  have hl := Vt.bytes_len (fits_zero h).1
  refine ⟨?_, takeNum_num _ hx _⟩
  rw [bytes, List.append_assoc]
  refine takeText_text _ _ _ ?_ (by omega)
  rcases hm with hm | hm
  · omega
  · simp only [bytes, text, List.length_append] at hm; omega
def none : Prf × Nat := (((0, 0, [], [], 0, 0), 0), 3)
theorem inj {p q : Prf} {n m : Int} (hp : fits p n = 0) (hq : fits q m = 0) (px : p.2 < 18446744073709551616) (qx : q.2 < 18446744073709551616) (h : bytes p = bytes q) : p = q := by
  obtain ⟨h1, h2⟩ := parts hp px [] 4600 (.inl (by omega))
  obtain ⟨k1, k2⟩ := parts hq qx [] 4600 (.inl (by omega))
  rw [h, k1] at h1
  simp only [Prod.mk.injEq, and_true] at h1
  have e1 := Vt.inj (fits_zero hp).1 (fits_zero hq).1 h1.1.symm
  rw [← h1.2, k2] at h2
  simp only [Prod.mk.injEq, and_true] at h2
  exact Prod.ext e1 h2.symm
open Classical in
/-- What 'Take' answers. -/
noncomputable def take (s : List UInt8) (n : Int) : Prf × Nat := if h : ∃ p : Prf, fits p n = 0 ∧ p.2 < 18446744073709551616 ∧ bytes p = s then (choose h, 0) else none
theorem take_yes {s : List UInt8} {n : Int} {p : Prf} (h : fits p n = 0) (hx : p.2 < 18446744073709551616) (hb : bytes p = s) : take s n = (p, 0) := by
  have he : ∃ p : Prf, fits p n = 0 ∧ p.2 < 18446744073709551616 ∧ bytes p = s := ⟨p, h, hx, hb⟩
  have hc := Classical.choose_spec he
  rw [take, dif_pos he]
  rw [inj hc.1 h hc.2.1 hx (hc.2.2.trans hb.symm)]
theorem take_no {s : List UInt8} {n : Int} (h : ∀ p : Prf, fits p n = 0 → p.2 < 18446744073709551616 → bytes p ≠ s) : take s n = none := by
  rw [take, dif_neg]
  rintro ⟨p, hm, hx, hb⟩
  exact h p hm hx hb
theorem take_or (s : List UInt8) (n : Int) : (take s n = none ∧ ∀ p : Prf, fits p n = 0 → p.2 < 18446744073709551616 → bytes p ≠ s) ∨ ∃ p : Prf, take s n = (p, 0) ∧ fits p n = 0 ∧ p.2 < 18446744073709551616 ∧ bytes p = s := by
  by_cases he : ∃ p : Prf, fits p n = 0 ∧ p.2 < 18446744073709551616 ∧ bytes p = s
  · obtain ⟨p, h, hx, hb⟩ := he
    exact .inr ⟨p, take_yes h hx hb, h, hx, hb⟩
  · have h : ∀ p : Prf, fits p n = 0 → p.2 < 18446744073709551616 → bytes p ≠ s := fun p hm hx hb => he ⟨p, hm, hx, hb⟩
    exact .inl ⟨take_no h, h⟩
theorem longer {p : Prf} {n : Int} (more : List UInt8) (h : fits p n = 0) (hx : p.2 < 18446744073709551616) (hm : more ≠ []) : take (bytes p ++ more) n = none := by
  refine take_no fun q hq qx e => ?_
  have hl := Vt.bytes_len (fits_zero h).1
  obtain ⟨h1, h2⟩ := parts hq qx [] 4600 (.inl (by omega))
  obtain ⟨k1, k2⟩ := parts h hx more 4600 (.inl (by omega))
  rw [List.append_nil, e, k1] at h1
  simp only [Prod.mk.injEq, and_true] at h1
  rw [List.append_nil] at h1 h2
  rw [← h1.2, k2] at h2
  simp only [Prod.mk.injEq, and_true] at h2
  exact hm h2.2
theorem cut {p : Prf} {n : Int} (k : Nat) (h : fits p n = 0) (hx : p.2 < 18446744073709551616) (hk : k < (bytes p).length) : take ((bytes p).take k) n = none := by
  rcases take_or ((bytes p).take k) n with ⟨e, _⟩ | ⟨c, _, hc, hcx, e⟩
  · exact e
  · exfalso
    have hne : (bytes p).drop k ≠ [] := by
      intro e
      have := congrArg List.length e
      simp at this
      omega
    have := longer ((bytes p).drop k) hc hcx hne
    rw [e, List.take_append_drop, take_yes h hx rfl] at this
    simp [none] at this
theorem bytes_len {p : Prf} {n : Int} (h : fits p n = 0) : (bytes p).length ≤ 4700 := by
  have hl := Vt.bytes_len (fits_zero h).1
  have l1 := num_len p.2
  have l2 := num_len (Vt.bytes p.1).length
  simp only [bytes, text, List.length_append]
  omega
end Cr
