/- SeatMath2, BookMath, CertMath, in one. -/
import Derived.Test.YtbkpekpajeaacaaGVtx
import Derived.Test.YtbkpekpajeaacaaGDig
import Derived.Test.YtbkpekpajeaacaaShaMath
section
/- Sets of seats, more: what quorums have in common, what is put in, what is taken out. No program is named here. -/
namespace Se

theorem count_zero : count 0 = 0 := by decide

theorem listTo_put (v i k : Nat) (h1 : 1 ≤ i) (h : v.testBit (i - 1) = false) : (listTo (put v i) k).length = (listTo v k).length + if i ≤ k then 1 else 0 := by
  induction k with
  | zero => simp [listTo]; omega
  | succ k ih =>
    simp only [listTo, List.length_append, put_bit, ih]
    by_cases e : i - 1 = k
    · subst e
      rw [h]
      have a1 : ¬ i ≤ i - 1 := by omega
      have a2 : i ≤ i - 1 + 1 := by omega
      simp [a1, a2]
    · have e2 : (i ≤ k + 1) ↔ (i ≤ k) := by omega
      simp only [e, decide_false, Bool.or_false, e2]
      omega
theorem count_put (v i : Nat) (h1 : 1 ≤ i) (h2 : i ≤ 64) (h : v.testBit (i - 1) = false) : count (put v i) = count v + 1 := by
  have := listTo_put v i 64 h1 h
  rw [if_pos h2] at this
  exact this

theorem within_iff (v : Nat) (n : Int) (h : 0 ≤ n ∧ n ≤ 64) : within v n = true ↔ ∀ i ∈ list v, (i : Int) ≤ n := by
  simp [within, h]
theorem listTo_within (v : Nat) (m k : Nat) (hv : ∀ i, i < k → v.testBit i = true → i < m) : (listTo v k).length ≤ m := by
  have h : ∀ j, j ≤ k → (listTo v j).length ≤ min j m := by
    intro j
    induction j with
    | zero => simp [listTo]
    | succ j ih =>
      intro hj
      have := ih (by omega)
      rw [listTo, List.length_append]
      split
      · rename_i hb
        have := hv j (by omega) hb
        simp; omega
      · simp; omega
  have := h k (Nat.le_refl _)
  omega
theorem count_within (v : Nat) (n : Int) (h : 0 ≤ n ∧ n ≤ 64) (hw : within v n = true) : (count v : Int) ≤ n := by
  obtain ⟨m, rfl⟩ := Int.eq_ofNat_of_zero_le h.1
  have := listTo_within v m 64 (fun i hi hb => by
    have := (within_iff v m h).1 hw (i + 1) ((list_mem v (i + 1)).2 ⟨by omega, by omega, by simpa using hb⟩)
    omega)
  have : count v ≤ m := this
  omega
theorem within_or (a b : Nat) (n : Int) (h : 0 ≤ n ∧ n ≤ 64) (ha : within a n = true) (hb : within b n = true) : within (a ||| b) n = true := by
  rw [within_iff _ _ h] at *
  intro i hi
  obtain ⟨h1, h2, h3⟩ := (list_mem _ _).1 hi
  rw [Nat.testBit_or, Bool.or_eq_true] at h3
  rcases h3 with h3 | h3
  · exact ha i ((list_mem _ _).2 ⟨h1, h2, h3⟩)
  · exact hb i ((list_mem _ _).2 ⟨h1, h2, h3⟩)

theorem may_form (n : Int) (h : may n = true) : ∃ f : Nat, n = 3 * f + 1 ∧ faults n = f ∧ quorum n = 2 * f + 1 ∧ weak n = f + 1 ∧ 0 ≤ n ∧ n ≤ 64 := by
  have h' := h
  simp only [may, Bool.and_eq_true, decide_eq_true_iff] at h'
  refine ⟨((n - 1) / 3).toNat, by omega, ?_, ?_, ?_, by omega, by omega⟩
  · rw [faults, if_pos h]; omega
  · rw [quorum, if_pos h]; omega
  · rw [weak, if_pos h]; omega
theorem meet_quorum (n : Int) (a b : Nat) (h : may n = true) (ha : within a n = true) (hb : within b n = true) (ca : quorum n ≤ count a) (cb : quorum n ≤ count b) : weak n ≤ count (a &&& b) := by
  obtain ⟨f, hn, _, hq, hw, h0, h64⟩ := may_form n h
  have := count_within (a ||| b) n ⟨h0, h64⟩ (within_or a b n ⟨h0, h64⟩ ha hb)
  have := count_sum a b
  omega
theorem meet_weak (n : Int) (a b : Nat) (h : may n = true) (ha : within a n = true) (hb : within b n = true) (ca : quorum n ≤ count a) (cb : weak n ≤ count b) : a &&& b ≠ 0 := by
  obtain ⟨f, hn, _, hq, hw, h0, h64⟩ := may_form n h
  have := count_within (a ||| b) n ⟨h0, h64⟩ (within_or a b n ⟨h0, h64⟩ ha hb)
  have := count_sum a b
  intro e
  rw [e, count_zero] at this
  omega

/-- The set of a set's list is the set. -/
theorem ofL_list (v : Nat) (hv : v < 18446744073709551616) : of ((list v).map fun (i : Nat) => (i : Int)) = (v, 0) := by
  have h : ∀ (l : List Nat) (u : Nat), (∀ i ∈ l, 1 ≤ i ∧ i ≤ 64) → ∃ w, ofL (l.map fun (i : Nat) => (i : Int)) u = some w ∧ ∀ j, w.testBit j = (u.testBit j || l.any fun i => decide (i - 1 = j)) := by
    intro l
    induction l with
    | nil => intro u _; exact ⟨u, rfl, fun j => by simp⟩
    | cons x l ih =>
      intro u hl
      have hx := hl x (by simp)
      obtain ⟨w, hw, hb⟩ := ih (put u x) (fun i hi => hl i (by simp [hi]))
      refine ⟨w, ?_, fun j => ?_⟩
      · rw [List.map_cons, ofL_put _ _ _ (by omega), Int.toNat_natCast]; exact hw
      · rw [hb j, put_bit, List.any_cons, Bool.or_assoc]
  obtain ⟨w, hw, hb⟩ := h (list v) 0 (fun i hi => by have := (list_mem v i).1 hi; omega)
  have e : w = v := by
    apply Nat.eq_of_testBit_eq
    intro j
    rw [hb j, Nat.zero_testBit, Bool.false_or, Bool.eq_iff_iff, List.any_eq_true]
    constructor
    · rintro ⟨i, hi, hd⟩
      obtain ⟨h1, _, h3⟩ := (list_mem v i).1 hi
      rw [decide_eq_true_iff] at hd
      rwa [hd] at h3
    · intro hj
      have hlt : j < 64 := by
        rcases Nat.lt_or_ge j 64 with h | h
        · exact h
        · rw [bits_above v j hv h] at hj; cases hj
      exact ⟨j + 1, (list_mem v _).2 ⟨by omega, by omega, by simpa using hj⟩, by simp⟩
  rw [of, hw, e]
theorem within_all (v : Nat) : within v 64 = true := by
  rw [within_iff _ _ (by omega)]
  intro i hi
  have := (list_mem v i).1 hi
  omega

/-- The first m seats. -/
def first : Nat → Nat
  | 0 => 0
  | m + 1 => put (first m) (m + 1)
theorem first_bit (m j : Nat) : (first m).testBit j = decide (j < m) := by
  induction m with
  | zero => simp [first]
  | succ m ih =>
    rw [first, put_bit, ih, Nat.add_sub_cancel, Bool.eq_iff_iff]
    simp only [Bool.or_eq_true, decide_eq_true_iff]
    omega
theorem first_lt (m : Nat) (h : m ≤ 64) : first m < 18446744073709551616 := by
  induction m with
  | zero => simp [first]
  | succ m ih => exact put_lt _ _ (ih (by omega)) (by omega) h
theorem first_count (m : Nat) (h : m ≤ 64) : count (first m) = m := by
  induction m with
  | zero => decide
  | succ m ih => rw [first, count_put _ _ (by omega) h (by rw [first_bit]; simp), ih (by omega)]

/-- A set without what it has in common with another one. -/
theorem sub_and (x y : Nat) : x - (x &&& y) = x ^^^ (x &&& y) := by
  have hd : (x &&& y) &&& (x ^^^ (x &&& y)) = 0 := by
    apply Nat.eq_of_testBit_eq
    intro j
    simp only [Nat.testBit_and, Nat.testBit_xor, Nat.zero_testBit]
    cases x.testBit j <;> cases y.testBit j <;> rfl
  have hs := add_or _ _ hd
  have ho : (x &&& y) ||| (x ^^^ (x &&& y)) = x := by
    apply Nat.eq_of_testBit_eq
    intro j
    simp only [Nat.testBit_or, Nat.testBit_and, Nat.testBit_xor]
    cases x.testBit j <;> cases y.testBit j <;> rfl
  rw [ho] at hs
  omega
theorem count_sub (x y : Nat) : count (x - (x &&& y)) + count (x &&& y) = count x := by
  have h := count_sum (x - (x &&& y)) (x &&& y)
  have e1 : (x - (x &&& y)) ||| (x &&& y) = x := by
    rw [sub_and]
    apply Nat.eq_of_testBit_eq
    intro j
    simp only [Nat.testBit_or, Nat.testBit_and, Nat.testBit_xor]
    cases x.testBit j <;> cases y.testBit j <;> rfl
  have e2 : (x - (x &&& y)) &&& (x &&& y) = 0 := by
    rw [sub_and]
    apply Nat.eq_of_testBit_eq
    intro j
    simp only [Nat.testBit_and, Nat.testBit_xor, Nat.zero_testBit]
    cases x.testBit j <;> cases y.testBit j <;> rfl
  rw [e1, e2, count_zero] at h
  omega
theorem first_within (v m : Nat) (hv : v < 18446744073709551616) (hm : m ≤ 64) (hw : within v m = true) : first m &&& v = v := by
  apply Nat.eq_of_testBit_eq
  intro j
  rw [Nat.testBit_and, first_bit]
  by_cases hb : v.testBit j = true
  · have hlt : j < 64 := by
      rcases Nat.lt_or_ge j 64 with h | h
      · exact h
      · rw [bits_above v j hv h] at hb; cases hb
    have := (within_iff v m (by omega)).1 hw (j + 1) ((list_mem v _).2 ⟨by omega, by omega, by simpa using hb⟩)
    have : j < m := by omega
    simp [hb, this]
  · simp [hb]
theorem count_and_le (x y : Nat) : count (x &&& y) ≤ count y := by
  have := count_sub y x
  rw [Nat.and_comm] at this
  omega
theorem honest_all (n : Int) (m v : Nat) (hn : n = m) (h : may n = true) (hv : v < 18446744073709551616) (hw : within v n = true) (hc : (count v : Int) ≤ faults n) : quorum n ≤ count (first m - v) := by
  subst hn
  obtain ⟨f, hf, h1, h2, _, h0, h64⟩ := may_form _ h
  have e := first_within v m hv (by omega) hw
  have := count_sub (first m) v
  rw [e, first_count m (by omega)] at this
  omega
theorem honest_weak (n : Int) (a v : Nat) (h : may n = true) (hc : (count v : Int) ≤ faults n) (ha : quorum n ≤ count a) : weak n ≤ count (a - (a &&& v)) := by
  obtain ⟨f, _, h1, h2, h3, _, _⟩ := may_form n h
  have := count_sub a v
  have := count_and_le a v
  omega
end Se
end
section
/- Books of seals: a seal more, what is right, the order of two books. No program is named here. -/
namespace Bk

/-- A seal: its seat and its text. -/
abbrev Sl := Int × List UInt8
theorem less_irr (a : List UInt8) : Dg.less a a = false := by
  induction a with
  | nil => rfl
  | cons x l ih => simp [Dg.less, ih]
theorem less_trans (a b c : List UInt8) (h1 : Dg.less a b = true) (h2 : Dg.less b c = true) : Dg.less a c = true := by
  induction a generalizing b c with
  | nil =>
    cases c with
    | nil => cases b <;> simp [Dg.less] at h2
    | cons z c => simp [Dg.less]
  | cons x a ih =>
    cases b with
    | nil => simp [Dg.less] at h1
    | cons y b =>
      cases c with
      | nil => simp [Dg.less] at h2
      | cons z c =>
        simp only [Dg.less] at h1 h2 ⊢
        by_cases e1 : x = y
        · subst e1
          simp only [if_true] at h1
          by_cases e2 : x = z
          · subst e2
            simp only [if_true] at h2 ⊢
            exact ih b c h1 h2
          · simp only [e2, if_false] at h2 ⊢
            exact h2
        · by_cases e2 : y = z
          · subst e2
            simp only [e1, if_false] at h1 ⊢
            exact h1
          · simp only [e1, e2, if_false, decide_eq_true_iff] at h1 h2
            have hx : ¬ x = z := by
              intro e
              subst e
              exact absurd (UInt8.lt_trans h1 h2) (UInt8.lt_irrefl _)
            simp only [hx, if_false, decide_eq_true_iff]
            exact UInt8.lt_trans h1 h2
theorem less_total (a b : List UInt8) (h1 : Dg.less a b = false) (h2 : Dg.less b a = false) : a = b := by
  induction a generalizing b with
  | nil =>
    cases b with
    | nil => rfl
    | cons y b => simp [Dg.less] at h1
  | cons x a ih =>
    cases b with
    | nil => simp [Dg.less] at h2
    | cons y b =>
      simp only [Dg.less] at h1 h2
      by_cases e : x = y
      · subst e
        simp only [if_true] at h1 h2
        rw [ih b h1 h2]
      · have e' : ¬ y = x := fun h => e h.symm
        simp only [e, e', if_false, decide_eq_false_iff_not] at h1 h2
        exact absurd (UInt8.le_antisymm (UInt8.not_lt.mp h2) (UInt8.not_lt.mp h1)) e

/-- Is a seal ahead of another one? -/
def ahead (a b : Sl) : Bool := decide (a.1 < b.1) || decide (a.1 = b.1) && Dg.less a.2 b.2
theorem ahead_iff (a b : Sl) : ahead a b = true ↔ a.1 < b.1 ∨ a.1 = b.1 ∧ Dg.less a.2 b.2 = true := by simp [ahead]
theorem ahead_irr (a : Sl) : ahead a a = false := by simp [ahead, less_irr]
theorem ahead_trans (a b c : Sl) (h1 : ahead a b = true) (h2 : ahead b c = true) : ahead a c = true := by
  rw [ahead_iff] at *
  rcases h1 with h1 | ⟨h1, t1⟩ <;> rcases h2 with h2 | ⟨h2, t2⟩
  · exact .inl (by omega)
  · exact .inl (by omega)
  · exact .inl (by omega)
  · exact .inr ⟨by omega, less_trans _ _ _ t1 t2⟩
theorem ahead_total (a b : Sl) (h1 : ahead a b = false) (h2 : ahead b a = false) : a = b := by
  simp only [ahead, Bool.or_eq_false_iff, Bool.and_eq_false_iff, decide_eq_false_iff_not] at h1 h2
  have e : a.1 = b.1 := by omega
  have t1 : Dg.less a.2 b.2 = false := h1.2.resolve_left fun h => h e
  have t2 : Dg.less b.2 a.2 = false := h2.2.resolve_left fun h => h e.symm
  exact Prod.ext e (less_total _ _ t1 t2)

def inR (s : Sl) : Bool := decide (1 ≤ s.1 ∧ s.1 ≤ 64)
def has (b : List Sl) (s : Sl) : Bool := decide (s ∈ b)
def right : List Sl → Bool
  | [] => true
  | [s] => inR s
  | s :: t :: l => inR s && ahead s t && right (t :: l)
/-- The place of a seal: behind all that it is not ahead of, up to the first that it is ahead of. -/
def ins (s : Sl) : List Sl → List Sl
  | [] => [s]
  | t :: l => if ahead s t then s :: t :: l else t :: ins s l
def put (b : List Sl) (s : Sl) : List Sl := if has b s || !(inR s) then b else ins s b

theorem ins_mem (s x : Sl) (b : List Sl) : x ∈ ins s b ↔ x = s ∨ x ∈ b := by
  induction b with
  | nil => simp [ins]
  | cons t l ih =>
    rw [ins]
    split
    · simp
    · simp only [List.mem_cons, ih]
      constructor <;> rintro (h | h | h) <;> simp [h]
theorem ins_len (s : Sl) (b : List Sl) : (ins s b).length = b.length + 1 := by
  induction b with
  | nil => rfl
  | cons t l ih => rw [ins]; split <;> simp [ih]
/-- Right is: each seal's seat there is, and each is ahead of all that follow. -/
theorem right_iff (b : List Sl) : right b = true ↔ (∀ s ∈ b, inR s = true) ∧ b.Pairwise fun s t => ahead s t = true := by
  induction b with
  | nil => simp [right]
  | cons s l ih =>
    cases l with
    | nil => simp [right]
    | cons t l =>
      rw [right, Bool.and_eq_true, Bool.and_eq_true, ih, List.pairwise_cons (a := s)]
      constructor
      · rintro ⟨⟨h1, h2⟩, h3, h4⟩
        refine ⟨?_, ?_, h4⟩
        · intro x hx
          rcases List.mem_cons.mp hx with rfl | hx
          · exact h1
          · exact h3 x hx
        · intro x hx
          rcases List.mem_cons.mp hx with rfl | hx
          · exact h2
          · exact ahead_trans s t x h2 ((List.pairwise_cons.mp h4).1 x hx)
      · rintro ⟨h1, h2, h3⟩
        exact ⟨⟨h1 s (by simp), h2 t (by simp)⟩, fun x hx => h1 x (List.mem_cons_of_mem _ hx), h3⟩
theorem right_ins (s : Sl) (b : List Sl) (hb : right b = true) (hs : inR s = true) (hn : s ∉ b) : right (ins s b) = true := by
  rw [right_iff] at hb ⊢
  obtain ⟨h1, h2⟩ := hb
  refine ⟨fun x hx => ?_, ?_⟩
  · rcases (ins_mem s x b).mp hx with rfl | hx
    · exact hs
    · exact h1 x hx
  · clear h1
    induction b with
    | nil => simp [ins]
    | cons t l ih =>
      obtain ⟨h3, h4⟩ := List.pairwise_cons.mp h2
      rw [ins]
      split
      · rename_i ha
        refine List.pairwise_cons.mpr ⟨fun x hx => ?_, h2⟩
        rcases List.mem_cons.mp hx with rfl | hx
        · exact ha
        · exact ahead_trans s t x ha (h3 x hx)
      · rename_i ha
        refine List.pairwise_cons.mpr ⟨fun x hx => ?_, ih (fun h => hn (List.mem_cons_of_mem _ h)) h4⟩
        rcases (ins_mem s x l).mp hx with rfl | hx
        · cases hta : ahead t x with
          | true => rfl
          | false => exact absurd (by rw [ahead_total x t (by simpa using ha) hta]; simp) hn
        · exact h3 x hx
theorem right_put (b : List Sl) (s : Sl) (hb : right b = true) : right (put b s) = true := by
  rw [put]
  split
  · exact hb
  · rename_i h
    simp only [Bool.or_eq_true, not_or, has, decide_eq_true_iff, Bool.not_eq_true'] at h
    exact right_ins s b hb (by simpa using h.2) h.1
theorem put_mem (b : List Sl) (s x : Sl) : x ∈ put b s ↔ x ∈ b ∨ x = s ∧ inR s = true := by
  rw [put]
  split
  · rename_i h
    simp only [Bool.or_eq_true, has, decide_eq_true_iff, Bool.not_eq_true'] at h
    constructor
    · exact .inl
    · rintro (hx | ⟨rfl, hr⟩)
      · exact hx
      · rcases h with h | h
        · exact h
        · rw [h] at hr; cases hr
  · rename_i h
    simp only [Bool.or_eq_true, not_or, has, decide_eq_true_iff, Bool.not_eq_true'] at h
    rw [ins_mem]
    constructor
    · rintro (rfl | hx)
      · exact .inr ⟨rfl, by simpa using h.2⟩
      · exact .inl hx
    · rintro (hx | ⟨rfl, _⟩)
      · exact .inr hx
      · exact .inl rfl
theorem put_len (b : List Sl) (s : Sl) : (put b s).length = b.length + if has b s || !(inR s) then 0 else 1 := by
  rw [put]
  split
  · rfl
  · exact ins_len s b
theorem put_twice (b : List Sl) (s : Sl) : put (put b s) s = put b s := by
  cases hr : inR s with
  | false => simp [put, hr]
  | true =>
    have : has (put b s) s = true := by rw [has, decide_eq_true_iff, put_mem]; exact .inr ⟨rfl, hr⟩
    rw [put.eq_1 (put b s), this]; rfl
/-- Two right books with the same seals are the same. -/
theorem right_ext (a b : List Sl) (ha : right a = true) (hb : right b = true) (h : ∀ x, x ∈ a ↔ x ∈ b) : a = b := by
  replace ha := ((right_iff a).mp ha).2
  replace hb := ((right_iff b).mp hb).2
  induction a generalizing b with
  | nil =>
    cases b with
    | nil => rfl
    | cons t l => exact absurd ((h t).mpr (by simp)) (by simp)
  | cons s a ih =>
    cases b with
    | nil => exact absurd ((h s).mp (by simp)) (by simp)
    | cons t b =>
      obtain ⟨a1, a2⟩ := List.pairwise_cons.mp ha
      obtain ⟨b1, b2⟩ := List.pairwise_cons.mp hb
      have e : s = t := by
        rcases List.mem_cons.mp ((h s).mp (by simp)) with h1 | h1
        · exact h1
        · rcases List.mem_cons.mp ((h t).mpr (by simp)) with h2 | h2
          · exact h2.symm
          · have := ahead_trans s t s (a1 t h2) (b1 s h1)
            rw [ahead_irr] at this
            cases this
      subst e
      rw [ih b (fun x => ?_) a2 b2]
      constructor
      · intro hx
        rcases List.mem_cons.mp ((h x).mp (List.mem_cons_of_mem _ hx)) with rfl | h1
        · have := a1 _ hx; rw [ahead_irr] at this; cases this
        · exact h1
      · intro hx
        rcases List.mem_cons.mp ((h x).mpr (List.mem_cons_of_mem _ hx)) with rfl | h1
        · have := b1 _ hx; rw [ahead_irr] at this; cases this
        · exact h1
/-- Seals put in from the left. -/
def puts (b : List Sl) (l : List Sl) : List Sl := l.foldl put b
theorem puts_right (l b : List Sl) (hb : right b = true) : right (puts b l) = true := by
  induction l generalizing b with
  | nil => exact hb
  | cons s l ih => exact ih (put b s) (right_put b s hb)
theorem puts_mem (l b : List Sl) (x : Sl) : x ∈ puts b l ↔ x ∈ b ∨ x ∈ l ∧ inR x = true := by
  induction l generalizing b with
  | nil => simp [puts]
  | cons s l ih =>
    rw [puts, List.foldl_cons, ← puts, ih, put_mem, List.mem_cons]
    constructor
    · rintro ((h | ⟨rfl, h⟩) | ⟨h, h2⟩)
      · exact .inl h
      · exact .inr ⟨.inl rfl, h⟩
      · exact .inr ⟨.inr h, h2⟩
    · rintro (h | ⟨rfl | h, h2⟩)
      · exact .inl (.inl h)
      · exact .inl (.inr ⟨rfl, h2⟩)
      · exact .inr ⟨h, h2⟩
theorem puts_order (l : List Sl) : puts [] l = puts [] l.reverse := right_ext _ _ (puts_right _ _ rfl) (puts_right _ _ rfl) fun x => by simp [puts_mem]

/-- The seats of a book that have sealed a text. -/
def byTo (b : List Sl) (t : List UInt8) : Nat → Nat
  | 0 => 0
  | k + 1 => if has b (((k : Int) + 1), t) then Se.put (byTo b t k) (k + 1) else byTo b t k
def by' (b : List Sl) (t : List UInt8) : Nat := byTo b t 64
theorem byTo_bit (b : List Sl) (t : List UInt8) (k i : Nat) : (byTo b t k).testBit i = (decide (i < k) && has b ((i : Int) + 1, t)) := by
  induction k with
  | zero => simp [byTo]
  | succ k ih =>
    rw [byTo]
    by_cases h : has b ((k : Int) + 1, t) = true
    · rw [if_pos h, Se.put_bit, ih, Nat.add_sub_cancel]
      by_cases e : i = k
      · subst e; simp [h]
      · have e' : ¬ k = i := fun h => e h.symm
        have : decide (i < k + 1) = decide (i < k) := decide_eq_decide.mpr (by omega)
        simp [e', this]
    · rw [if_neg h, ih]
      by_cases e : i = k
      · subst e; simp [Bool.eq_false_iff.mpr h]
      · have : decide (i < k + 1) = decide (i < k) := decide_eq_decide.mpr (by omega)
        rw [this]
theorem byTo_lt (b : List Sl) (t : List UInt8) (k : Nat) (h : k ≤ 64) : byTo b t k < 18446744073709551616 := by
  induction k with
  | zero => simp [byTo]
  | succ k ih =>
    rw [byTo]
    split
    · exact Se.put_lt _ _ (ih (by omega)) (by omega) h
    · exact ih (by omega)
/-- Have all of a set sealed a text? -/
def all (b : List Sl) (v : Nat) (t : List UInt8) : Bool := (Se.list v).all fun i => has b ((i : Int), t)
theorem all_iff (b : List Sl) (v : Nat) (t : List UInt8) : all b v t = true ↔ ∀ i, i < 64 → v.testBit i = true → ((i : Int) + 1, t) ∈ b := by
  simp only [all, List.all_eq_true, has, decide_eq_true_iff]
  constructor
  · intro h i hi hb
    have := h (i + 1) ((Se.list_mem v (i + 1)).mpr ⟨by omega, by omega, by rw [Nat.add_sub_cancel]; exact hb⟩)
    exact this
  · intro h i hi
    obtain ⟨h1, h2, h3⟩ := (Se.list_mem v i).mp hi
    have := h (i - 1) (by omega) h3
    rw [show ((i - 1 : Nat) : Int) + 1 = (i : Int) by omega] at this
    exact this
/-- What has been sealed stays so. -/
theorem by_grows (b c : List Sl) (t : List UInt8) (h : ∀ x ∈ b, x ∈ c) : by' b t &&& by' c t = by' b t := by
  apply Nat.eq_of_testBit_eq
  intro i
  rw [Nat.testBit_and, by', by', byTo_bit, byTo_bit]
  by_cases hi : i < 64
  · by_cases hb : ((i : Int) + 1, t) ∈ b
    · simp [hi, has, hb, h _ hb]
    · simp [hi, has, hb]
  · simp [hi]
theorem all_grows (b c : List Sl) (v : Nat) (t : List UInt8) (h : ∀ x ∈ b, x ∈ c) (ha : all b v t = true) : all c v t = true := by
  rw [all_iff] at ha ⊢
  exact fun i hi hb => h _ (ha i hi hb)
/-- A seal more brings its seat to those of its text, and nothing to any other text. -/
theorem by_put_same (b : List Sl) (s : Sl) (hs : inR s = true) : by' (put b s) s.2 = by' b s.2 ||| 2 ^ (s.1.toNat - 1) := by
  simp only [inR, decide_eq_true_iff] at hs
  apply Nat.eq_of_testBit_eq
  intro i
  rw [Nat.testBit_or, by', by', byTo_bit, byTo_bit, Nat.testBit_two_pow]
  have hm := put_mem b s ((i : Int) + 1, s.2)
  by_cases hi : i < 64
  · by_cases e : s.1.toNat - 1 = i
    · have hx : (((i : Int) + 1, s.2) : Sl) = s := Prod.ext (by show (i : Int) + 1 = s.1; omega) rfl
      have : ((i : Int) + 1, s.2) ∈ put b s := hm.mpr (.inr ⟨hx, by simp [inR, hs]⟩)
      simp [hi, e, has, this]
    · have hx : ¬ (((i : Int) + 1, s.2) : Sl) = s := by
        intro h
        have := congrArg Prod.fst h
        simp only at this
        omega
      have : ((i : Int) + 1, s.2) ∈ put b s ↔ ((i : Int) + 1, s.2) ∈ b := by rw [hm]; simp [hx]
      simp [hi, e, has, this]
  · have : ¬ s.1.toNat - 1 = i := by omega
    simp [hi, this]
theorem by_put_other (b : List Sl) (s : Sl) (t : List UInt8) (ht : t ≠ s.2) : by' (put b s) t = by' b t := by
  apply Nat.eq_of_testBit_eq
  intro i
  rw [by', by', byTo_bit, byTo_bit]
  have : ((i : Int) + 1, t) ∈ put b s ↔ ((i : Int) + 1, t) ∈ b := by
    rw [put_mem]
    constructor
    · rintro (h | ⟨h, _⟩)
      · exact h
      · exact absurd (congrArg Prod.snd h) ht
    · exact .inl
  simp [has, this]
theorem by_put_out (b : List Sl) (s : Sl) (t : List UInt8) (hs : inR s = false) : by' (put b s) t = by' b t := by simp [put, hs]
end Bk
end
section
/- Proofs, and who has sealed what: plain functions. No program is named here. -/
namespace Cr
open Dg

def hd (d : List UInt8) : List UInt8 := 104 :: d
def yd (d : List UInt8) : List UInt8 := 121 :: d
def od (d : List UInt8) : List UInt8 := 111 :: d
def vdig (v : Vt.Vtx) : List UInt8 := Sh.sum (118 :: Vt.bytes v)
def bdig (b : Bt.Bat) : List UInt8 := Sh.sum (98 :: Bt.bytes b)
/-- A vertex, and the set of those who have voted for it. -/
abbrev Prf := Vt.Vtx × Nat
def enough (n : Int) (x : Nat) : Nat := if Se.within x n = true then (if (Se.count x : Int) < Se.quorum n then 2 else 0) else 4
noncomputable def fits (p : Prf) (n : Int) : Nat := if Vt.may p.1 n = true then enough n p.2 else 1
noncomputable def check (n : Int) (b : List Bk.Sl) (p : Prf) : Nat := if fits p n = 0 then (if Bk.all b p.2 (yd (vdig p.1)) = true then 0 else 10) else fits p n
def signedB (b : List Bk.Sl) (l : List Bt.Bat) : Bool := decide (∀ x ∈ l, Bk.has b (x.1, od (bdig x)) = true)
def signed (b : List Bk.Sl) (v : Vt.Vtx) : Bool := Bk.has b (v.1, hd (vdig v)) && signedB b v.2.2.1
noncomputable def sealedC (n : Int) (b : List Bk.Sl) (v : Vt.Vtx) : Nat := if Vt.may v n = true then (if signed b v = true then 0 else 10) else 1

theorem enough_err (n : Int) (x : Nat) : enough n x = 0 ∨ enough n x = 2 ∨ enough n x = 4 := by
  unfold enough
  split
  · split <;> simp
  · simp
theorem fits_err (p : Prf) (n : Int) : fits p n = 0 ∨ fits p n = 1 ∨ fits p n = 2 ∨ fits p n = 4 := by
  unfold fits
  split
  · rcases enough_err n p.2 with h | h | h <;> rw [h] <;> simp
  · simp
theorem fits_zero {p : Prf} {n : Int} (h : fits p n = 0) : Vt.may p.1 n = true ∧ enough n p.2 = 0 := by
  unfold fits at h
  split at h
  · rename_i hm; exact ⟨hm, h⟩
  · simp at h
theorem enough_zero {n : Int} {x : Nat} (h : enough n x = 0) : Se.within x n = true ∧ Se.quorum n ≤ Se.count x := by
  unfold enough at h
  split at h
  · rename_i hw
    split at h
    · simp at h
    · exact ⟨hw, by omega⟩
  · simp at h
theorem enough_of {n : Int} {x : Nat} (hw : Se.within x n = true) (hq : Se.quorum n ≤ Se.count x) : enough n x = 0 := by
  unfold enough; rw [if_pos hw, if_neg (by omega)]
theorem fits_of {p : Prf} {n : Int} (hm : Vt.may p.1 n = true) : fits p n = enough n p.2 := by unfold fits; rw [if_pos hm]
theorem check_ok {n : Int} {b : List Bk.Sl} {p : Prf} (h : fits p n = 0) : check n b p = if Bk.all b p.2 (yd (vdig p.1)) = true then 0 else 10 := by unfold check; rw [if_pos h]
theorem check_no {n : Int} {b : List Bk.Sl} {p : Prf} (h : fits p n ≠ 0) : check n b p = fits p n := by unfold check; rw [if_neg h]
theorem check_zero {n : Int} {b : List Bk.Sl} {p : Prf} (h : check n b p = 0) : fits p n = 0 ∧ Bk.all b p.2 (yd (vdig p.1)) = true := by
  by_cases hf : fits p n = 0
  · rw [check_ok hf] at h
    split at h
    · rename_i ha; exact ⟨hf, ha⟩
    · simp at h
  · rw [check_no hf] at h; exact absurd h hf
theorem check_of {n : Int} {b : List Bk.Sl} {p : Prf} (h : fits p n = 0) (ha : Bk.all b p.2 (yd (vdig p.1)) = true) : check n b p = 0 := by rw [check_ok h, if_pos ha]
theorem check_err (n : Int) (b : List Bk.Sl) (p : Prf) : check n b p = 0 ∨ check n b p = 1 ∨ check n b p = 2 ∨ check n b p = 4 ∨ check n b p = 10 := by
  by_cases hf : fits p n = 0
  · rw [check_ok hf]; split <;> simp
  · rw [check_no hf]; rcases fits_err p n with h | h | h | h <;> rw [h] <;> simp

/-- A set of one. -/
theorem of_one (i : Int) (h : 1 ≤ i ∧ i ≤ 64) : Se.of [i] = (Se.put 0 i.toNat, 0) := by
  unfold Se.of
  rw [Se.ofL_put _ _ _ h]
  rfl
theorem all_one (b : List Bk.Sl) (i : Int) (t : List UInt8) (h : 1 ≤ i ∧ i ≤ 64) : Bk.all b (Se.put 0 i.toNat) t = Bk.has b (i, t) := by
  rw [Bool.eq_iff_iff, Bk.all_iff]
  unfold Bk.has
  rw [decide_eq_true_iff]
  have e : ((i.toNat - 1 : Nat) : Int) + 1 = i := by omega
  constructor
  · intro hh
    have := hh (i.toNat - 1) (by omega) (by rw [Se.put_bit]; simp)
    rwa [e] at this
  · intro hh k hk hb
    rw [Se.put_bit] at hb
    simp only [Nat.zero_testBit, Bool.false_or, decide_eq_true_iff] at hb
    rw [← hb, e]
    exact hh
theorem all_sub (b : List Bk.Sl) (x y : Nat) (t : List UInt8) (h : ∀ i, y.testBit i = true → x.testBit i = true) (ha : Bk.all b x t = true) : Bk.all b y t = true := by
  rw [Bk.all_iff] at ha ⊢
  exact fun i hi hb => ha i hi (h i hb)

/-- Two certificates that pass. -/
theorem meet {n : Int} {b : List Bk.Sl} {p q : Prf} (hp : check n b p = 0) (hq : check n b q = 0) :
    Se.weak n ≤ Se.count (p.2 &&& q.2) ∧ Bk.all b (p.2 &&& q.2) (yd (vdig p.1)) = true ∧ Bk.all b (p.2 &&& q.2) (yd (vdig q.1)) = true := by
  obtain ⟨f1, a1⟩ := check_zero hp
  obtain ⟨f2, a2⟩ := check_zero hq
  obtain ⟨m1, e1⟩ := fits_zero f1
  obtain ⟨m2, e2⟩ := fits_zero f2
  obtain ⟨w1, q1⟩ := enough_zero e1
  obtain ⟨w2, q2⟩ := enough_zero e2
  have hn : Se.may n = true := by
    simp only [Vt.may, Bool.and_eq_true] at m1; exact m1.1
  refine ⟨Se.meet_quorum n _ _ hn w1 w2 q1 q2, all_sub b p.2 _ _ (fun i h => ?_) a1, all_sub b q.2 _ _ (fun i h => ?_) a2⟩
  · rw [Nat.testBit_and, Bool.and_eq_true] at h; exact h.1
  · rw [Nat.testBit_and, Bool.and_eq_true] at h; exact h.2
/-- More seals. -/
theorem grows {n : Int} {b c : List Bk.Sl} {p : Prf} (h : ∀ x ∈ b, x ∈ c) (hp : check n b p = 0) : check n c p = 0 := by
  obtain ⟨f, a⟩ := check_zero hp
  exact check_of f (Bk.all_grows b c _ _ h a)
theorem sealed_grows {n : Int} {b c : List Bk.Sl} {v : Vt.Vtx} (h : ∀ x ∈ b, x ∈ c) (hp : sealedC n b v = 0) : sealedC n c v = 0 := by
  unfold sealedC at hp ⊢
  split at hp
  · rename_i hm
    rw [if_pos hm]
    split at hp
    · rename_i hs
      have : signed c v = true := by
        simp only [signed, signedB, Bool.and_eq_true, decide_eq_true_iff, Bk.has] at hs ⊢
        exact ⟨h _ hs.1, fun x hx => h _ (hs.2 x hx)⟩
      rw [if_pos this]
    · simp at hp
  · simp at hp
theorem sub_bit (x y i : Nat) (h : (x - (x &&& y)).testBit i = true) : x.testBit i = true := by
  rw [Se.sub_and, Nat.testBit_xor, Nat.testBit_and] at h
  cases hx : x.testBit i with
  | true => rfl
  | false => rw [hx] at h; simp at h
theorem within_sub (x y : Nat) (n : Int) (hw : Se.within x n = true) : Se.within (x - (x &&& y)) n = true := by
  have hr : 0 ≤ n ∧ n ≤ 64 := by
    simp only [Se.within, Bool.and_eq_true, decide_eq_true_iff] at hw; exact hw.1
  rw [Se.within_iff _ _ hr] at hw ⊢
  intro i hi
  rw [Se.list_mem] at hi
  exact hw i ((Se.list_mem _ _).2 ⟨hi.1, hi.2.1, sub_bit _ _ _ hi.2.2⟩)
theorem fewer {n : Int} {b : List Bk.Sl} {p : Prf} (l : Nat) (hp : check n b p = 0) :
    Se.quorum n ≤ Se.count p.2 ∧ check n b (p.1, p.2 - (p.2 &&& l)) = if Se.quorum n ≤ Se.count (p.2 - (p.2 &&& l)) then 0 else 2 := by
  obtain ⟨f, a⟩ := check_zero hp
  obtain ⟨m, e⟩ := fits_zero f
  obtain ⟨w, q⟩ := enough_zero e
  refine ⟨q, ?_⟩
  have w2 := within_sub p.2 l n w
  have hf : fits (p.1, p.2 - (p.2 &&& l)) n = enough n (p.2 - (p.2 &&& l)) := fits_of (p := (p.1, p.2 - (p.2 &&& l))) m
  split
  · rename_i hq
    have := enough_of w2 hq
    refine check_of (hf.trans this) (all_sub b p.2 _ _ (fun i h => sub_bit _ _ _ h) a)
  · rename_i hq
    have : enough n (p.2 - (p.2 &&& l)) = 2 := by unfold enough; rw [if_pos w2, if_pos (by omega)]
    rw [check_no (by rw [hf, this]; omega), hf, this]

/-- A proof's bytes. -/
def bytes (p : Prf) : List UInt8 := text (Vt.bytes p.1) ++ num p.2
noncomputable def bytesR (p : Prf) (n : Int) : List UInt8 × Nat := if fits p n = 0 then (bytes p, 0) else ([], fits p n)
theorem bytesR_ok {p : Prf} {n : Int} (h : fits p n = 0) : bytesR p n = (bytes p, 0) := by rw [bytesR, if_pos h]
theorem bytesR_no {p : Prf} {n : Int} (h : fits p n ≠ 0) : bytesR p n = ([], fits p n) := by rw [bytesR, if_neg h]
theorem parts {p : Prf} {n : Int} (h : fits p n = 0) (hx : p.2 < 18446744073709551616) (more : List UInt8) (most : Int) (hm : 4600 ≤ most ∨ ((bytes p ++ more).length : Int) ≤ most) :
    takeText (bytes p ++ more) most = (Vt.bytes p.1, num p.2 ++ more, 0) ∧ takeNum (num p.2 ++ more) = (p.2, more, 0) := by
  have hl := Vt.bytes_len (fits_zero h).1
  refine ⟨?_, takeNum_num _ hx _⟩
  rw [bytes, List.append_assoc]
  refine takeText_text _ _ _ ?_ (by omega)
  rcases hm with hm | hm
  · omega
  · simp only [bytes, text, List.length_append] at hm; omega
def none : Prf × Nat := (((0, 0, [], [], 0, 0), 0), 3)
theorem inj {p q : Prf} {n m : Int} (hp : fits p n = 0) (hq : fits q m = 0) (px : p.2 < 18446744073709551616) (qx : q.2 < 18446744073709551616) (h : bytes p = bytes q) : p = q := by
  obtain ⟨h1, h2⟩ := parts hp px [] 4600 (.inl (by omega))
  obtain ⟨k1, k2⟩ := parts hq qx [] 4600 (.inl (by omega))
  rw [h, k1] at h1
  simp only [Prod.mk.injEq, and_true] at h1
  have e1 := Vt.inj (fits_zero hp).1 (fits_zero hq).1 h1.1.symm
  rw [← h1.2, k2] at h2
  simp only [Prod.mk.injEq, and_true] at h2
  exact Prod.ext e1 h2.symm
open Classical in
/-- What 'Take' answers. -/
noncomputable def take (s : List UInt8) (n : Int) : Prf × Nat := if h : ∃ p : Prf, fits p n = 0 ∧ p.2 < 18446744073709551616 ∧ bytes p = s then (choose h, 0) else none
theorem take_yes {s : List UInt8} {n : Int} {p : Prf} (h : fits p n = 0) (hx : p.2 < 18446744073709551616) (hb : bytes p = s) : take s n = (p, 0) := by
  have he : ∃ p : Prf, fits p n = 0 ∧ p.2 < 18446744073709551616 ∧ bytes p = s := ⟨p, h, hx, hb⟩
  have hc := Classical.choose_spec he
  rw [take, dif_pos he]
  rw [inj hc.1 h hc.2.1 hx (hc.2.2.trans hb.symm)]
theorem take_no {s : List UInt8} {n : Int} (h : ∀ p : Prf, fits p n = 0 → p.2 < 18446744073709551616 → bytes p ≠ s) : take s n = none := by
  rw [take, dif_neg]
  rintro ⟨p, hm, hx, hb⟩
  exact h p hm hx hb
theorem take_or (s : List UInt8) (n : Int) : (take s n = none ∧ ∀ p : Prf, fits p n = 0 → p.2 < 18446744073709551616 → bytes p ≠ s) ∨ ∃ p : Prf, take s n = (p, 0) ∧ fits p n = 0 ∧ p.2 < 18446744073709551616 ∧ bytes p = s := by
  by_cases he : ∃ p : Prf, fits p n = 0 ∧ p.2 < 18446744073709551616 ∧ bytes p = s
  · obtain ⟨p, h, hx, hb⟩ := he
    exact .inr ⟨p, take_yes h hx hb, h, hx, hb⟩
  · have h : ∀ p : Prf, fits p n = 0 → p.2 < 18446744073709551616 → bytes p ≠ s := fun p hm hx hb => he ⟨p, hm, hx, hb⟩
    exact .inl ⟨take_no h, h⟩
theorem longer {p : Prf} {n : Int} (more : List UInt8) (h : fits p n = 0) (hx : p.2 < 18446744073709551616) (hm : more ≠ []) : take (bytes p ++ more) n = none := by
  refine take_no fun q hq qx e => ?_
  have hl := Vt.bytes_len (fits_zero h).1
  obtain ⟨h1, h2⟩ := parts hq qx [] 4600 (.inl (by omega))
  obtain ⟨k1, k2⟩ := parts h hx more 4600 (.inl (by omega))
  rw [List.append_nil, e, k1] at h1
  simp only [Prod.mk.injEq, and_true] at h1
  rw [List.append_nil] at h1 h2
  rw [← h1.2, k2] at h2
  simp only [Prod.mk.injEq, and_true] at h2
  exact hm h2.2
theorem cut {p : Prf} {n : Int} (k : Nat) (h : fits p n = 0) (hx : p.2 < 18446744073709551616) (hk : k < (bytes p).length) : take ((bytes p).take k) n = none := by
  rcases take_or ((bytes p).take k) n with ⟨e, _⟩ | ⟨c, _, hc, hcx, e⟩
  · exact e
  · exfalso
    have hne : (bytes p).drop k ≠ [] := by
      intro e
      have := congrArg List.length e
      simp at this
      omega
    have := longer ((bytes p).drop k) hc hcx hne
    rw [e, List.take_append_drop, take_yes h hx rfl] at this
    simp [none] at this
theorem bytes_len {p : Prf} {n : Int} (h : fits p n = 0) : (bytes p).length ≤ 4700 := by
  have hl := Vt.bytes_len (fits_zero h).1
  have l1 := num_len p.2
  have l2 := num_len (Vt.bytes p.1).length
  simp only [bytes, text, List.length_append]
  omega
end Cr
end
