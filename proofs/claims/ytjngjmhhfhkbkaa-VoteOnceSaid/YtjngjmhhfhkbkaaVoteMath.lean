/- Chapter 9 (vote), as plain functions: ballots in their order, a vote more, a floor. No program is named here. -/
import Derived.Test.YtjngjmhhfhkbkaaDigMath
namespace Vt

/-- A ballot: its author, its round, its digest. -/
abbrev Bl := Int × Int × List UInt8
def may (b : Bl) : Bool := decide (1 ≤ b.1) && decide (b.1 ≤ 64) && decide (1 ≤ b.2.1)
def ahead (a b : Bl) : Bool := decide (a.2.1 < b.2.1) || decide (a.2.1 = b.2.1) && decide (a.1 < b.1)
theorem ahead_iff (a b : Bl) : ahead a b = true ↔ a.2.1 < b.2.1 ∨ a.2.1 = b.2.1 ∧ a.1 < b.1 := by simp [ahead]
theorem ahead_trans (a b c : Bl) (h1 : ahead a b = true) (h2 : ahead b c = true) : ahead a c = true := by
  rw [ahead_iff] at *
  omega
theorem ahead_irr (a : Bl) : ahead a a = false := by simp [ahead]
theorem ahead_total (a b : Bl) (h1 : ahead a b = false) (h2 : ahead b a = false) : a.1 = b.1 ∧ a.2.1 = b.2.1 := by
  simp only [ahead, Bool.or_eq_false_iff, Bool.and_eq_false_iff, decide_eq_false_iff_not] at h1 h2
  omega
def find (l : List Bl) (a r : Int) : Option (List UInt8) := (l.find? fun b => decide (b.1 = a) && decide (b.2.1 = r)).map (·.2.2)
def ins (b : Bl) : List Bl → List Bl
  | [] => [b]
  | x :: l => if ahead b x = true then b :: x :: l else x :: ins b l
def floor (l : List Bl) (low : Int) : List Bl := l.filter fun b => decide (low < b.2.1)
def give (l : List Bl) (low : Int) (b : Bl) : List Bl × Int :=
  if may b = false then (l, 1) else if b.2.1 ≤ low then (l, 9) else
  match find l b.1 b.2.1 with
  | some d => if d = b.2.2 then (l, 0) else (l, 13)
  | none => (ins b l, 0)
/-- Votes that are right. -/
def Rt (l : List Bl) : Prop := (∀ b ∈ l, may b = true) ∧ l.Pairwise (fun a b => ahead a b = true)

theorem mem_ins (b x : Bl) (l : List Bl) : x ∈ ins b l ↔ x = b ∨ x ∈ l := by
  induction l with
  | nil => simp [ins]
  | cons y l ih =>
    rw [ins]
    split
    · simp
    · rw [List.mem_cons, ih, List.mem_cons]
      constructor
      · rintro (h | h | h)
        · exact .inr (.inl h)
        · exact .inl h
        · exact .inr (.inr h)
      · rintro (h | h | h)
        · exact .inr (.inl h)
        · exact .inl h
        · exact .inr (.inr h)
theorem find_none (l : List Bl) (a r : Int) (h : find l a r = none) : ∀ b ∈ l, ¬ (b.1 = a ∧ b.2.1 = r) := by
  intro b hb he
  rw [find, Option.map_eq_none_iff, List.find?_eq_none] at h
  exact h b hb (by simp [he.1, he.2])
theorem find_some (l : List Bl) (a r : Int) (d : List UInt8) (h : find l a r = some d) : (a, r, d) ∈ l := by
  rw [find, Option.map_eq_some_iff] at h
  obtain ⟨b, hb, rfl⟩ := h
  have h1 := List.mem_of_find?_eq_some hb
  have h2 := List.find?_some hb
  simp only [Bool.and_eq_true, decide_eq_true_iff] at h2
  obtain ⟨b1, b2, b3⟩ := b
  simp only [] at h2
  rw [← h2.1, ← h2.2]
  exact h1
theorem find_mem (l : List Bl) (h : Rt l) (b : Bl) (hb : b ∈ l) : find l b.1 b.2.1 = some b.2.2 := by
  cases hf : find l b.1 b.2.1 with
  | none => exact absurd ⟨rfl, rfl⟩ (find_none l _ _ hf b hb)
  | some d =>
    have hm := find_some l _ _ d hf
    by_cases e : (b.1, b.2.1, d) = b
    · rw [← e]
    · have hp := h.2
      obtain ⟨i, hi, ei⟩ := List.getElem_of_mem hm
      obtain ⟨j, hj, ej⟩ := List.getElem_of_mem hb
      rw [List.pairwise_iff_getElem] at hp
      rcases Nat.lt_trichotomy i j with hlt | heq | hlt
      · have := hp i j hi hj hlt
        rw [ei, ej, ahead_iff] at this
        simp only [] at this
        omega
      · subst heq
        exact absurd (ei.symm.trans ej) e
      · have := hp j i hj hi hlt
        rw [ei, ej, ahead_iff] at this
        simp only [] at this
        omega
theorem rt_ins (l : List Bl) (b : Bl) (h : Rt l) (hm : may b = true) (hf : find l b.1 b.2.1 = none) : Rt (ins b l) := by
  refine ⟨fun x hx => ?_, ?_⟩
  · rcases (mem_ins b x l).1 hx with rfl | hx
    · exact hm
    · exact h.1 x hx
  · have hn := find_none l _ _ hf
    have hp := h.2
    clear h hf hm
    induction l with
    | nil => exact List.pairwise_singleton _ _
    | cons y l ih =>
      rw [List.pairwise_cons] at hp
      rw [ins]
      split
      · rename_i hb
        rw [List.pairwise_cons, List.pairwise_cons]
        refine ⟨fun x hx => ?_, hp⟩
        rcases List.mem_cons.1 hx with rfl | hx
        · exact hb
        · exact ahead_trans _ _ _ hb (hp.1 x hx)
      · rename_i hb
        rw [List.pairwise_cons]
        refine ⟨fun x hx => ?_, ih (fun z hz => hn z (List.mem_cons_of_mem _ hz)) hp.2⟩
        rcases (mem_ins b x l).1 hx with rfl | hx
        · cases hyb : ahead y x with
          | true => rfl
          | false =>
            have := ahead_total y x hyb (by simpa using hb)
            exact absurd this (hn y (by simp))
        · exact hp.1 x hx
theorem rt_floor (l : List Bl) (low : Int) (h : Rt l) : Rt (floor l low) :=
  ⟨fun b hb => h.1 b (List.mem_filter.1 hb).1, h.2.filter _⟩
theorem rt_give (l : List Bl) (low : Int) (b : Bl) (h : Rt l) : Rt (give l low b).1 := by
  unfold give
  split
  · exact h
  · rename_i hm
    split
    · exact h
    · split
      · split <;> exact h
      · rename_i hf
        exact rt_ins l b h (by simpa using hm) hf
theorem floor_floor (l : List Bl) (a b : Int) : floor (floor l a) b = floor l (if a < b then b else a) := by
  rw [floor, floor, floor, List.filter_filter]
  congr 1
  funext x
  rw [Bool.eq_iff_iff]
  simp only [Bool.and_eq_true, decide_eq_true_iff]
  split <;> omega
/-- What was given, and is above the floor, stands among the votes: so one digest at most for each author and round. -/
theorem give_ok (l : List Bl) (low : Int) (b : Bl) (h : Rt l) (he : (give l low b).2 = 0) : b ∈ (give l low b).1 ∧ low < b.2.1 ∧ may b = true ∧ (∀ x ∈ l, x ∈ (give l low b).1) ∧ ∀ g ∈ l, g.1 = b.1 → g.2.1 = b.2.1 → g.2.2 = b.2.2 := by
  unfold give at he ⊢
  split at he
  · cases he
  · rename_i hm
    rw [if_neg hm]
    split at he
    · cases he
    · rename_i hlow
      rw [if_neg hlow]
      have hm' : may b = true := by simpa using hm
      cases hf : find l b.1 b.2.1 with
      | none =>
        simp only []
        refine ⟨(mem_ins b b l).2 (.inl rfl), by omega, hm', fun x hx => (mem_ins b x l).2 (.inr hx), fun g hg h1 h2 => absurd ⟨h1, h2⟩ (find_none l _ _ hf g hg)⟩
      | some d =>
        rw [hf] at he
        simp only [] at he ⊢
        by_cases hd : d = b.2.2
        · rw [if_pos hd]
          have hin := find_some l _ _ d hf
          rw [hd] at hin
          refine ⟨hin, by omega, hm', fun x hx => hx, fun g hg h1 h2 => ?_⟩
          have := find_mem l h g hg
          rw [h1, h2, hf, Option.some.injEq] at this
          rw [← this, hd]
        · rw [if_neg hd] at he
          cases he
end Vt
