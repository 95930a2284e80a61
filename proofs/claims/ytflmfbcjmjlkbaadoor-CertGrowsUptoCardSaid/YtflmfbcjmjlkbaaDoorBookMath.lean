/- Books of seals: a seal more, what is right, the order of two books. No program is named here. -/
import Derived.Test.YtflmfbcjmjlkbaaDoorDigOrd
import Derived.Test.YtflmfbcjmjlkbaaDoorSeatMath2
namespace Bk

/-- A seal: its seat and its text. -/
abbrev Sl := Int × List UInt8
theorem less_irr (a : List UInt8) : Dg.less a a = false := by
  induction a with
  | nil => rfl
  | cons x l ih => simp [Dg.less, ih]
theorem less_trans (a b c : List UInt8) (h1 : Dg.less a b = true) (h2 : Dg.less b c = true) : Dg.less a c = true := by
  induction a generalizing b c with
  | nil =>
    cases c with
    | nil => cases b <;> simp [Dg.less] at h2
    | cons z c => simp [Dg.less]
  | cons x a ih =>
    cases b with
    | nil => simp [Dg.less] at h1
    | cons y b =>
      cases c with
      | nil => simp [Dg.less] at h2
      | cons z c =>
        simp only [Dg.less] at h1 h2 ⊢
        by_cases e1 : x = y
        · subst e1
          simp only [if_true] at h1
          by_cases e2 : x = z
          · subst e2
            simp only [if_true] at h2 ⊢
            exact ih b c h1 h2
          · simp only [e2, if_false] at h2 ⊢
            exact h2
        · by_cases e2 : y = z
          · subst e2
            simp only [e1, if_false] at h1 ⊢
            exact h1
          · simp only [e1, e2, if_false, decide_eq_true_iff] at h1 h2
            have hx : ¬ x = z := by
              intro e
              subst e
              exact absurd (UInt8.lt_trans h1 h2) (UInt8.lt_irrefl _)
            simp only [hx, if_false, decide_eq_true_iff]
            exact UInt8.lt_trans h1 h2
theorem less_total (a b : List UInt8) (h1 : Dg.less a b = false) (h2 : Dg.less b a = false) : a = b := by
  induction a generalizing b with
  | nil =>
    cases b with
    | nil => rfl
    | cons y b => simp [Dg.less] at h1
  | cons x a ih =>
    cases b with
    | nil => simp [Dg.less] at h2
    | cons y b =>
      simp only [Dg.less] at h1 h2
      by_cases e : x = y
      · subst e
        simp only [if_true] at h1 h2
        rw [ih b h1 h2]
      · have e' : ¬ y = x := fun h => e h.symm
        simp only [e, e', if_false, decide_eq_false_iff_not] at h1 h2
        exact absurd (UInt8.le_antisymm (UInt8.not_lt.mp h2) (UInt8.not_lt.mp h1)) e

/-- Is a seal ahead of another one? -/
def ahead (a b : Sl) : Bool := decide (a.1 < b.1) || decide (a.1 = b.1) && Dg.less a.2 b.2
theorem ahead_iff (a b : Sl) : ahead a b = true ↔ a.1 < b.1 ∨ a.1 = b.1 ∧ Dg.less a.2 b.2 = true := by simp [ahead]
theorem ahead_irr (a : Sl) : ahead a a = false := by simp [ahead, less_irr]
theorem ahead_trans (a b c : Sl) (h1 : ahead a b = true) (h2 : ahead b c = true) : ahead a c = true := by
  rw [ahead_iff] at *
  rcases h1 with h1 | ⟨h1, t1⟩ <;> rcases h2 with h2 | ⟨h2, t2⟩
  · exact .inl (by omega)
  · exact .inl (by omega)
  · exact .inl (by omega)
  · exact .inr ⟨by omega, less_trans _ _ _ t1 t2⟩
theorem ahead_total (a b : Sl) (h1 : ahead a b = false) (h2 : ahead b a = false) : a = b := by
  simp only [ahead, Bool.or_eq_false_iff, Bool.and_eq_false_iff, decide_eq_false_iff_not] at h1 h2
  have e : a.1 = b.1 := by omega
  have t1 : Dg.less a.2 b.2 = false := h1.2.resolve_left fun h => h e
  have t2 : Dg.less b.2 a.2 = false := h2.2.resolve_left fun h => h e.symm
  exact Prod.ext e (less_total _ _ t1 t2)

def inR (s : Sl) : Bool := decide (1 ≤ s.1 ∧ s.1 ≤ 64)
def has (b : List Sl) (s : Sl) : Bool := decide (s ∈ b)
def right : List Sl → Bool
  | [] => true
  | [s] => inR s
  | s :: t :: l => inR s && ahead s t && right (t :: l)
/-- The place of a seal: behind all that it is not ahead of, up to the first that it is ahead of. -/
def ins (s : Sl) : List Sl → List Sl
  | [] => [s]
  | t :: l => if ahead s t then s :: t :: l else t :: ins s l
def put (b : List Sl) (s : Sl) : List Sl := if has b s || !(inR s) then b else ins s b

theorem ins_mem (s x : Sl) (b : List Sl) : x ∈ ins s b ↔ x = s ∨ x ∈ b := by
  induction b with
  | nil => simp [ins]
  | cons t l ih =>
    rw [ins]
    split
    · simp
    · simp only [List.mem_cons, ih]
      constructor <;> rintro (h | h | h) <;> simp [h]
theorem ins_len (s : Sl) (b : List Sl) : (ins s b).length = b.length + 1 := by
  induction b with
  | nil => rfl
  | cons t l ih => rw [ins]; split <;> simp [ih]
/-- Right is: each seal's seat there is, and each is ahead of all that follow. -/
theorem right_iff (b : List Sl) : right b = true ↔ (∀ s ∈ b, inR s = true) ∧ b.Pairwise fun s t => ahead s t = true := by
  induction b with
  | nil => simp [right]
  | cons s l ih =>
    cases l with
    | nil => simp [right]
    | cons t l =>
      rw [right, Bool.and_eq_true, Bool.and_eq_true, ih, List.pairwise_cons (a := s)]
      constructor
      · rintro ⟨⟨h1, h2⟩, h3, h4⟩
        refine ⟨?_, ?_, h4⟩
        · intro x hx
          rcases List.mem_cons.mp hx with rfl | hx
          · exact h1
          · exact h3 x hx
        · intro x hx
          rcases List.mem_cons.mp hx with rfl | hx
          · exact h2
          · exact ahead_trans s t x h2 ((List.pairwise_cons.mp h4).1 x hx)
      · rintro ⟨h1, h2, h3⟩
        exact ⟨⟨h1 s (by simp), h2 t (by simp)⟩, fun x hx => h1 x (List.mem_cons_of_mem _ hx), h3⟩
theorem right_ins (s : Sl) (b : List Sl) (hb : right b = true) (hs : inR s = true) (hn : s ∉ b) : right (ins s b) = true := by
  rw [right_iff] at hb ⊢
  obtain ⟨h1, h2⟩ := hb
  refine ⟨fun x hx => ?_, ?_⟩
  · rcases (ins_mem s x b).mp hx with rfl | hx
    · exact hs
    · exact h1 x hx
  · clear h1
    induction b with
    | nil => simp [ins]
    | cons t l ih =>
      obtain ⟨h3, h4⟩ := List.pairwise_cons.mp h2
      rw [ins]
      split
      · rename_i ha
        refine List.pairwise_cons.mpr ⟨fun x hx => ?_, h2⟩
        rcases List.mem_cons.mp hx with rfl | hx
        · exact ha
        · exact ahead_trans s t x ha (h3 x hx)
      · rename_i ha
        refine List.pairwise_cons.mpr ⟨fun x hx => ?_, ih (fun h => hn (List.mem_cons_of_mem _ h)) h4⟩
        rcases (ins_mem s x l).mp hx with rfl | hx
        · cases hta : ahead t x with
          | true => rfl
          | false => exact absurd (by rw [ahead_total x t (by simpa using ha) hta]; simp) hn
        · exact h3 x hx
theorem right_put (b : List Sl) (s : Sl) (hb : right b = true) : right (put b s) = true := by
  rw [put]
  split
  · exact hb
  · rename_i h
    simp only [Bool.or_eq_true, not_or, has, decide_eq_true_iff, Bool.not_eq_true'] at h
    exact right_ins s b hb (by simpa using h.2) h.1
theorem put_mem (b : List Sl) (s x : Sl) : x ∈ put b s ↔ x ∈ b ∨ x = s ∧ inR s = true := by
  rw [put]
  split
  · rename_i h
    simp only [Bool.or_eq_true, has, decide_eq_true_iff, Bool.not_eq_true'] at h
    constructor
    · exact .inl
    · rintro (hx | ⟨rfl, hr⟩)
      · exact hx
      · rcases h with h | h
        · exact h
        · rw [h] at hr; cases hr
  · rename_i h
    simp only [Bool.or_eq_true, not_or, has, decide_eq_true_iff, Bool.not_eq_true'] at h
    rw [ins_mem]
    constructor
    · rintro (rfl | hx)
      · exact .inr ⟨rfl, by simpa using h.2⟩
      · exact .inl hx
    · rintro (hx | ⟨rfl, _⟩)
      · exact .inr hx
      · exact .inl rfl
theorem put_len (b : List Sl) (s : Sl) : (put b s).length = b.length + if has b s || !(inR s) then 0 else 1 := by
  rw [put]
  split
  · rfl
  · exact ins_len s b
theorem put_twice (b : List Sl) (s : Sl) : put (put b s) s = put b s := by
  cases hr : inR s with
  | false => simp [put, hr]
  | true =>
    have : has (put b s) s = true := by rw [has, decide_eq_true_iff, put_mem]; exact .inr ⟨rfl, hr⟩
    rw [put.eq_1 (put b s), this]; rfl
/-- Two right books with the same seals are the same. -/
theorem right_ext (a b : List Sl) (ha : right a = true) (hb : right b = true) (h : ∀ x, x ∈ a ↔ x ∈ b) : a = b := by
  replace ha := ((right_iff a).mp ha).2
  replace hb := ((right_iff b).mp hb).2
  induction a generalizing b with
  | nil =>
    cases b with
    | nil => rfl
    | cons t l => exact absurd ((h t).mpr (by simp)) (by simp)
  | cons s a ih =>
    cases b with
    | nil => exact absurd ((h s).mp (by simp)) (by simp)
    | cons t b =>
      obtain ⟨a1, a2⟩ := List.pairwise_cons.mp ha
      obtain ⟨b1, b2⟩ := List.pairwise_cons.mp hb
      have e : s = t := by
        rcases List.mem_cons.mp ((h s).mp (by simp)) with h1 | h1
        · exact h1
        · rcases List.mem_cons.mp ((h t).mpr (by simp)) with h2 | h2
          · exact h2.symm
          · have := ahead_trans s t s (a1 t h2) (b1 s h1)
            rw [ahead_irr] at this
            cases this
      subst e
      rw [ih b (fun x => ?_) a2 b2]
      constructor
      · intro hx
        rcases List.mem_cons.mp ((h x).mp (List.mem_cons_of_mem _ hx)) with rfl | h1
        · have := a1 _ hx; rw [ahead_irr] at this; cases this
        · exact h1
      · intro hx
        rcases List.mem_cons.mp ((h x).mpr (List.mem_cons_of_mem _ hx)) with rfl | h1
        · have := b1 _ hx; rw [ahead_irr] at this; cases this
        · exact h1
/-- Seals put in from the left. -/
def puts (b : List Sl) (l : List Sl) : List Sl := l.foldl put b
theorem puts_right (l b : List Sl) (hb : right b = true) : right (puts b l) = true := by
  induction l generalizing b with
  | nil => exact hb
  | cons s l ih => exact ih (put b s) (right_put b s hb)
theorem puts_mem (l b : List Sl) (x : Sl) : x ∈ puts b l ↔ x ∈ b ∨ x ∈ l ∧ inR x = true := by
  induction l generalizing b with
  | nil => simp [puts]
  | cons s l ih =>
    rw [puts, List.foldl_cons, ← puts, ih, put_mem, List.mem_cons]
    constructor
    · rintro ((h | ⟨rfl, h⟩) | ⟨h, h2⟩)
      · exact .inl h
      · exact .inr ⟨.inl rfl, h⟩
      · exact .inr ⟨.inr h, h2⟩
    · rintro (h | ⟨rfl | h, h2⟩)
      · exact .inl (.inl h)
      · exact .inl (.inr ⟨rfl, h2⟩)
      · exact .inr ⟨h, h2⟩
theorem puts_order (l : List Sl) : puts [] l = puts [] l.reverse := right_ext _ _ (puts_right _ _ rfl) (puts_right _ _ rfl) fun x => by simp [puts_mem]

/-- The seats of a book that have sealed a text. -/
def byTo (b : List Sl) (t : List UInt8) : Nat → Nat
  | 0 => 0
  | k + 1 => if has b (((k : Int) + 1), t) then Se.put (byTo b t k) (k + 1) else byTo b t k
def by' (b : List Sl) (t : List UInt8) : Nat := byTo b t 64
theorem byTo_bit (b : List Sl) (t : List UInt8) (k i : Nat) : (byTo b t k).testBit i = (decide (i < k) && has b ((i : Int) + 1, t)) := by
  induction k with
  | zero => simp [byTo]
  | succ k ih =>
    rw [byTo]
    by_cases h : has b ((k : Int) + 1, t) = true
    · rw [if_pos h, Se.put_bit, ih, Nat.add_sub_cancel]
      by_cases e : i = k
      · subst e; simp [h]
      · have e' : ¬ k = i := fun h => e h.symm
        have : decide (i < k + 1) = decide (i < k) := decide_eq_decide.mpr (by omega)
        simp [e', this]
    · rw [if_neg h, ih]
      by_cases e : i = k
      · subst e; simp [Bool.eq_false_iff.mpr h]
      · have : decide (i < k + 1) = decide (i < k) := decide_eq_decide.mpr (by omega)
        rw [this]
theorem byTo_lt (b : List Sl) (t : List UInt8) (k : Nat) (h : k ≤ 64) : byTo b t k < 18446744073709551616 := by
  induction k with
  | zero => simp [byTo]
  | succ k ih =>
    rw [byTo]
    split
    · exact Se.put_lt _ _ (ih (by omega)) (by omega) h
    · exact ih (by omega)
/-- Have all of a set sealed a text? -/
def all (b : List Sl) (v : Nat) (t : List UInt8) : Bool := (Se.list v).all fun i => has b ((i : Int), t)
theorem all_iff (b : List Sl) (v : Nat) (t : List UInt8) : all b v t = true ↔ ∀ i, i < 64 → v.testBit i = true → ((i : Int) + 1, t) ∈ b := by
  simp only [all, List.all_eq_true, has, decide_eq_true_iff]
  constructor
  · intro h i hi hb
    have := h (i + 1) ((Se.list_mem v (i + 1)).mpr ⟨by omega, by omega, by rw [Nat.add_sub_cancel]; exact hb⟩)
    exact this
  · intro h i hi
    obtain ⟨h1, h2, h3⟩ := (Se.list_mem v i).mp hi
    have := h (i - 1) (by omega) h3
    rw [show ((i - 1 : Nat) : Int) + 1 = (i : Int) by omega] at this
    exact this
/-- What has been sealed stays so. -/
theorem by_grows (b c : List Sl) (t : List UInt8) (h : ∀ x ∈ b, x ∈ c) : by' b t &&& by' c t = by' b t := by
  apply Nat.eq_of_testBit_eq
  intro i
  rw [Nat.testBit_and, by', by', byTo_bit, byTo_bit]
  by_cases hi : i < 64
  · by_cases hb : ((i : Int) + 1, t) ∈ b
    · simp [hi, has, hb, h _ hb]
    · simp [hi, has, hb]
  · simp [hi]
theorem all_grows (b c : List Sl) (v : Nat) (t : List UInt8) (h : ∀ x ∈ b, x ∈ c) (ha : all b v t = true) : all c v t = true := by
  rw [all_iff] at ha ⊢
  exact fun i hi hb => h _ (ha i hi hb)
/-- A seal more brings its seat to those of its text, and nothing to any other text. -/
theorem by_put_same (b : List Sl) (s : Sl) (hs : inR s = true) : by' (put b s) s.2 = by' b s.2 ||| 2 ^ (s.1.toNat - 1) := by
  simp only [inR, decide_eq_true_iff] at hs
  apply Nat.eq_of_testBit_eq
  intro i
  rw [Nat.testBit_or, by', by', byTo_bit, byTo_bit, Nat.testBit_two_pow]
  have hm := put_mem b s ((i : Int) + 1, s.2)
  by_cases hi : i < 64
  · by_cases e : s.1.toNat - 1 = i
    · have hx : (((i : Int) + 1, s.2) : Sl) = s := Prod.ext (by show (i : Int) + 1 = s.1; omega) rfl
      have : ((i : Int) + 1, s.2) ∈ put b s := hm.mpr (.inr ⟨hx, by simp [inR, hs]⟩)
      simp [hi, e, has, this]
    · have hx : ¬ (((i : Int) + 1, s.2) : Sl) = s := by
        intro h
        have := congrArg Prod.fst h
        simp only at this
        omega
      have : ((i : Int) + 1, s.2) ∈ put b s ↔ ((i : Int) + 1, s.2) ∈ b := by rw [hm]; simp [hx]
      simp [hi, e, has, this]
  · have : ¬ s.1.toNat - 1 = i := by omega
    simp [hi, this]
theorem by_put_other (b : List Sl) (s : Sl) (t : List UInt8) (ht : t ≠ s.2) : by' (put b s) t = by' b t := by
  apply Nat.eq_of_testBit_eq
  intro i
  rw [by', by', byTo_bit, byTo_bit]
  have : ((i : Int) + 1, t) ∈ put b s ↔ ((i : Int) + 1, t) ∈ b := by
    rw [put_mem]
    constructor
    · rintro (h | ⟨h, _⟩)
      · exact h
      · exact absurd (congrArg Prod.snd h) ht
    · exact .inl
  simp [has, this]
theorem by_put_out (b : List Sl) (s : Sl) (t : List UInt8) (hs : inR s = false) : by' (put b s) t = by' b t := by simp [put, hs]
end Bk
