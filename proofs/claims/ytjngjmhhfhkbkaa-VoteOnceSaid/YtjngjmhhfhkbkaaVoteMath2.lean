/- Chapter 9 (vote): where a ballot is put in; one vote for each author and round. -/
import Derived.Test.YtjngjmhhfhkbkaaVoteMath
namespace Vt
/-- The place of the first one that is greater. -/
def place (b : Bl) : List Bl → Nat
  | [] => 0
  | x :: l => if ahead b x = true then 0 else place b l + 1
theorem place_le (b : Bl) (l : List Bl) : place b l ≤ l.length := by
  induction l with
  | nil => simp [place]
  | cons x l ih => rw [place]; split <;> simp <;> omega
theorem ins_place (b : Bl) (l : List Bl) : ins b l = l.take (place b l) ++ b :: l.drop (place b l) := by
  induction l with
  | nil => rfl
  | cons x l ih =>
    rw [ins, place]
    split
    · rfl
    · rw [ih]; rfl
theorem place_before (b : Bl) (l : List Bl) : ∀ i (h : i < l.length), i < place b l → ahead b l[i] = false := by
  induction l with
  | nil => intro i h; exact absurd h (by simp)
  | cons x l ih =>
    intro i h hi
    rw [place] at hi
    split at hi
    · omega
    · rename_i hx
      cases i with
      | zero => simpa using hx
      | succ i => exact ih i (by simpa using h) (by omega)
theorem place_at (b : Bl) (l : List Bl) : ∀ (h : place b l < l.length), ahead b (l[place b l]) = true := by
  induction l with
  | nil => intro h; exact absurd h (by simp [place])
  | cons x l ih =>
    intro h
    by_cases hx : ahead b x = true
    · have e : place b (x :: l) = 0 := by rw [place, if_pos hx]
      simp only [e]
      exact hx
    · have e : place b (x :: l) = place b l + 1 := by rw [place, if_neg hx]
      have h2 : place b l < l.length := by rw [e] at h; simpa using h
      simp only [e, List.getElem_cons_succ]
      exact ih h2
theorem ins_len (b : Bl) (l : List Bl) : (ins b l).length = l.length + 1 := by
  rw [ins_place, List.length_append, List.length_cons, List.length_take, List.length_drop]
  have := place_le b l
  omega

/-- What stands between two askings: votes, floor, what was given. -/
structure Inv (votes : List Bl) (low : Int) (given : List Bl) : Prop where
  right : Rt votes
  stays : ∀ g ∈ given, low < g.2.1 → g ∈ votes
  once : ∀ g ∈ given, ∀ k ∈ given, g.1 = k.1 → g.2.1 = k.2.1 → g.2.2 = k.2.2
theorem Inv.start (low : Int) : Inv [] low [] where
  right := ⟨by simp, List.Pairwise.nil⟩
  stays := by simp
  once := by simp
theorem Inv.give {votes : List Bl} {low : Int} {given : List Bl} (h : Inv votes low given) (b : Bl) (he : (Vt.give votes low b).2 = 0) : Inv (Vt.give votes low b).1 low (given ++ [b]) := by
  obtain ⟨h1, h2, _, h4, h5⟩ := give_ok votes low b h.right he
  have hb : ∀ g ∈ given, g.1 = b.1 → g.2.1 = b.2.1 → g.2.2 = b.2.2 := fun g hg e1 e2 => h5 g (h.stays g hg (by omega)) e1 e2
  refine ⟨rt_give _ _ _ h.right, fun g hg hl => ?_, fun g hg k hk e1 e2 => ?_⟩
  · rcases List.mem_append.1 hg with hg | hg
    · exact h4 g (h.stays g hg hl)
    · rw [List.mem_singleton.1 hg]; exact h1
  · rcases List.mem_append.1 hg with hg' | hg' <;> rcases List.mem_append.1 hk with hk' | hk'
    · exact h.once g hg' k hk' e1 e2
    · have e := List.mem_singleton.1 hk'
      rw [e] at e1 e2 ⊢
      exact hb g hg' e1 e2
    · have e := List.mem_singleton.1 hg'
      rw [e] at e1 e2 ⊢
      exact (hb k hk' e1.symm e2.symm).symm
    · rw [List.mem_singleton.1 hg', List.mem_singleton.1 hk']
theorem refused (votes : List Bl) (low : Int) (b : Bl) (he : (Vt.give votes low b).2 ≠ 0) : (Vt.give votes low b).1 = votes := by
  unfold Vt.give at he ⊢
  split
  · rfl
  · rename_i hm
    rw [if_neg hm] at he
    split
    · rfl
    · rename_i hl
      rw [if_neg hl] at he
      cases hf : find votes b.1 b.2.1 with
      | none => rw [hf] at he; exact absurd rfl he
      | some d => simp only []; split <;> rfl
theorem Inv.floor {votes : List Bl} {low : Int} {given : List Bl} (h : Inv votes low given) (up : Int) (hu : 0 ≤ up) : Inv (Vt.floor votes (low + up)) (low + up) given :=
  ⟨rt_floor _ _ h.right, fun g hg hl => List.mem_filter.2 ⟨h.stays g hg (by omega), by simpa using hl⟩, h.once⟩
/-- A vote that was given is found behind whatever else is asked for. -/
theorem stays_give (votes : List Bl) (low : Int) (b c : Bl) (hb : b ∈ votes) : b ∈ (give votes low c).1 := by
  unfold give
  split
  · exact hb
  · split
    · exact hb
    · split
      · split <;> exact hb
      · exact (mem_ins c b votes).2 (.inr hb)
theorem found_floor (votes : List Bl) (low : Int) (b : Bl) (h : Rt votes) (hb : b ∈ votes) (hl : low < b.2.1) : find (floor votes low) b.1 b.2.1 = some b.2.2 :=
  find_mem _ (rt_floor _ _ h) b (List.mem_filter.2 ⟨hb, by simpa using hl⟩)
end Vt
