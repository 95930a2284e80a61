/- Package vote as it landed: Give. (Written by gen-vgive.py.) -/
import Derived.Test.YtjngjmhhfhkbkaaVotPlace
import Derived.Test.YtjngjmhhfhkbkaaVotePFind
import Derived.Test.YtjngjmhhfhkbkaaBalSl
import Derived.Deep.RegionHeld
import Derived.Deep.Onto
namespace Go.Proofs.Ytjngjmhhfhkbkaa
open Go.RowKit

theorem ballot_one (l : List Vt.Bl) : ∀ u ∈ ballots l, u.oneCell' = true := by
  intro u hu
  unfold ballots at hu
  obtain ⟨s, _, hs⟩ := List.mem_flatMap.1 hu
  simp only [List.mem_cons, List.not_mem_nil, or_false] at hs
  rcases hs with rfl | rfl | rfl <;> rfl
/-- Where each ballot's three cells lie. -/
abbrev BalCells (w : World) (b off : Nat) (l : List Vt.Bl) : Prop := ∀ k (h : k < l.length), w.cell? ⟨b, off + k * 3, none⟩ = some (iv l[k].1) ∧ w.cell? ⟨b, off + k * 3 + 1, none⟩ = some (iv l[k].2.1) ∧ w.cell? ⟨b, off + k * 3 + 2, none⟩ = some (tx l[k].2.2)
theorem BalCells.below {w w' : World} {b off : Nat} {l : List Vt.Bl} (h : BalCells w b off l) (hb : Below w.heap.size w w') : BalCells w' b off l :=
  fun k hk => ⟨below_cell hb (h k hk).1, below_cell hb (h k hk).2.1, below_cell hb (h k hk).2.2⟩
/-- Votes that came in, or were made, as what is cut and appended. -/
def BalAt (w : World) (v : Value) (l : List Vt.Bl) : Prop := (∃ a, v = .slice a 0 0 ∧ l = []) ∨ ∃ b off cap, v = .slice (some ⟨b, off, none⟩) l.length cap ∧ l.length ≤ cap ∧ cap ≤ maxLen ∧ BalCells w b off l
theorem BalAt.below {w w' : World} {v : Value} {l : List Vt.Bl} (h : BalAt w v l) (hb : Below w.heap.size w w') : BalAt w' v l := by
  rcases h with h | ⟨b, off, cap, hv, h1, h2, hc⟩
  · exact .inl h
  · exact .inr ⟨b, off, cap, hv, h1, h2, hc.below hb⟩
theorem bal_row {w : World} {b off : Nat} {l : List Vt.Bl} (hc : BalCells w b off l) :
    ∀ j u, (ballots l)[j]? = some u → w.cell? ((⟨b, off, none⟩ : Addr).add j) = some u := by
  intro j u hj
  have hlt : j < (ballots l).length := (List.getElem?_eq_some_iff.1 hj).1
  rw [ballots_len] at hlt
  have ha : (⟨b, off, none⟩ : Addr).add j = ⟨b, off + j, none⟩ := by unfold Addr.add; split <;> simp_all
  rw [ha]
  obtain ⟨h1, h2, h3⟩ := hc (j / 3) (by omega)
  obtain ⟨s1, s2, s3⟩ := ballots_at l (j / 3) (by omega)
  have hm : j % 3 = 0 ∨ j % 3 = 1 ∨ j % 3 = 2 := by omega
  rcases hm with hm | hm | hm
  · have e : j / 3 * 3 = j := by omega
    rw [e] at h1 s1
    rw [h1, ← s1, hj]
  · have e : j / 3 * 3 + 1 = j := by omega
    rw [e] at s2
    rw [Nat.add_assoc, e] at h2
    rw [h2, ← s2, hj]
  · have e : j / 3 * 3 + 2 = j := by omega
    rw [e] at s3
    rw [Nat.add_assoc, e] at h3
    rw [h3, ← s3, hj]
theorem BalAt.own {w : World} {base : Nat} {v : Value} {l : List Vt.Bl} (h : w.ownsRow base 24 3 v l.length (ballots l)) : BalAt w v l := by
  rcases h.2 with ⟨hv, h0⟩ | ⟨g, cap, cur, hv, _, _, h1, h2, _, _⟩
  · exact .inl ⟨none, hv, List.length_eq_zero_iff.1 h0⟩
  · refine .inr ⟨g, 0, cap, hv, h1, h2, fun k hk => ?_⟩
    obtain ⟨s1, s2, s3⟩ := ballots_at l k hk
    have c1 := h.cells (by rw [hv]; rfl) _ _ s1
    have c2 := h.cells (by rw [hv]; rfl) _ _ s2
    have c3 := h.cells (by rw [hv]; rfl) _ _ s3
    have ha : ∀ j, (⟨g, 0, none⟩ : Addr).add j = ⟨g, 0 + j, none⟩ := fun j => by unfold Addr.add; split <;> simp_all
    rw [ha] at c1 c2 c3
    exact ⟨c1, c2, c3⟩
/-- Votes in a row of the call's own: their block is from 'base' on. -/
def BalNew (base : Nat) (w : World) (v : Value) (l : List Vt.Bl) : Prop := BalAt w v l ∧ ∀ k, v.ownBlock = some k → base ≤ k
theorem BalNew.own {w : World} {base base' : Nat} {v : Value} {l : List Vt.Bl} (h : w.ownsRow base' 24 3 v l.length (ballots l)) (hb : base ≤ base') : BalNew base w v l := by
  refine ⟨BalAt.own h, fun k hk => ?_⟩
  rcases h.2 with ⟨rfl, _⟩ | ⟨g, cap, cur, rfl, hg, _⟩
  · simp [Value.ownBlock] at hk
  · simp only [Value.ownBlock, Option.some.injEq] at hk
    omega
theorem BalAt.flat {w : World} {v : Value} {l : List Vt.Bl} (h : BalAt w v l) : FlatAt w v 3 (ballots l) := by
  rcases h with ⟨a, hv, rfl⟩ | ⟨b, off, cap, hv, h1, h2, hc⟩
  · exact .inl ⟨_, _, hv, rfl⟩
  · refine .inr ⟨b, off, l.length, cap, hv, ballots_len l, fun i hi => ?_⟩
    have hr := bal_row hc i _ (List.getElem?_eq_getElem hi)
    have ha : (⟨b, off, none⟩ : Addr).add i = ⟨b, off + i, none⟩ := by unfold Addr.add; split <;> simp_all
    rw [ha] at hr
    exact hr
theorem BalAt.src {w : World} {v : Value} {l : List Vt.Bl} (h : BalAt w v l) : balSrc w v l.length (ballots l) := by
  rcases h with ⟨a, hv, rfl⟩ | ⟨b, off, cap, hv, h1, h2, hc⟩
  · cases a with
    | none => exact .inl ⟨hv, rfl, rfl⟩
    | some ad => exact .inr ⟨ad, 0, hv, rfl, fun j u h => absurd h (by simp [ballots]), ballot_one _⟩
  · exact .inr ⟨_, cap, hv, ballots_len l, bal_row hc, ballot_one l⟩
theorem ballots_app (a b : List Vt.Bl) : ballots (a ++ b) = ballots a ++ ballots b := by
  unfold ballots; rw [List.flatMap_append]
theorem ballots_cons (s : Vt.Bl) (l : List Vt.Bl) : ballots (s :: l) = iv s.1 :: iv s.2.1 :: tx s.2.2 :: ballots l := rfl

theorem pplace_any (b off cap : Nat) (l : List Vt.Bl) (y : Vt.Bl) (w : World) (hc : BalCells w b off l) (hl : l.length ≤ 140737488351232) :
    Calls Try.prog 21 #[.slice (some ⟨b, off, none⟩) l.length cap, bval y] w fun e w' => e = .returned (.int .i64 (Vt.place y l : Nat)) ∧ Below w.heap.size w w' := by
  cases l with
  | nil => exact pplace_nil _ cap y w
  | cons x l => exact pplace_some b off cap (x :: l) y w (by simp) hc hl

/-- The three parts that Give joins. -/
theorem bal_cat (K : Nat) (l : List Vt.Bl) (s : Vt.Bl) (W : World) (v1 v3 : Value) (hK : K ≤ l.length) (hl : l.length ≤ 4398046511103) (h1 : balSrc W v1 K (ballots (l.take K)))
    (h3 : balSrc W v3 (l.length - K) (ballots (l.drop K))) :
    Calls Try.prog 22 #[.slice (some ⟨W.heap.size + 1, 0, none⟩) 3 3]
      ((W.alloc (Obj.cells #[iv s.1, iv s.2.1, tx s.2.2] 24)).alloc (Obj.cells #[v1, .slice (some ⟨W.heap.size, 0, none⟩) 1 1, v3] 22)).drew
      fun e w' => ∃ u, e = .returned u ∧ w'.ownsRow W.heap.size 24 3 u (l.take K ++ s :: l.drop K).length (ballots (l.take K ++ s :: l.drop K)) ∧ Below W.heap.size W w' := by
  have g1 : Below W.heap.size W (W.alloc (Obj.cells #[iv s.1, iv s.2.1, tx s.2.2] 24)) := (Below.refl _ _).alloc (Nat.le_refl _) _
  have g2 : Below W.heap.size W ((W.alloc (Obj.cells #[iv s.1, iv s.2.1, tx s.2.2] 24)).alloc (Obj.cells #[v1, .slice (some ⟨W.heap.size, 0, none⟩) 1 1, v3] 22)).drew := (g1.alloc g1.size _).drew
  obtain ⟨W2, hW2⟩ : ∃ W2, ((W.alloc (Obj.cells #[iv s.1, iv s.2.1, tx s.2.2] 24)).alloc (Obj.cells #[v1, .slice (some ⟨W.heap.size, 0, none⟩) 1 1, v3] 22)).drew = W2 := ⟨_, rfl⟩
  have a0 : W2.cell? ⟨W.heap.size + 1, 0, none⟩ = some v1 := by rw [← hW2]; simp
  have a1 : W2.cell? ⟨W.heap.size + 1, 1, none⟩ = some (.slice (some ⟨W.heap.size, 0, none⟩) 1 1) := by rw [← hW2]; simp
  have a2 : W2.cell? ⟨W.heap.size + 1, 2, none⟩ = some v3 := by rw [← hW2]; simp
  have e0 : W2.cell? ⟨W.heap.size, 0, none⟩ = some (iv s.1) := by rw [← hW2]; simp
  have e1 : W2.cell? ⟨W.heap.size, 1, none⟩ = some (iv s.2.1) := by rw [← hW2]; simp
  have e2 : W2.cell? ⟨W.heap.size, 2, none⟩ = some (tx s.2.2) := by rw [← hW2]; simp
  rw [hW2] at g2 ⊢
  clear hW2 g1
  have s1 := h1.below g2
  have s2 : balSrc W2 (.slice (some ⟨W.heap.size, 0, none⟩) 1 1) 1 (ballots [s]) := by
    refine .inr ⟨_, 1, rfl, rfl, ?_, ballot_one _⟩
    apply bal_row
    intro k hk
    obtain rfl : k = 0 := by simpa using hk
    exact ⟨by simpa using e0, by simpa using e1, by simpa using e2⟩
  have hb := balConcat (W.heap.size + 1) 0 3 [(v1, K, ballots (l.take K)), (.slice (some ⟨W.heap.size, 0, none⟩) 1 1, 1, ballots [s]), (v3, l.length - K, ballots (l.drop K))] W2 (by simp)
    (by simp [balSumN]; omega) (by simp [balSumN]; omega)
    (by
      intro i hi
      match i, hi with
      | 0, _ => simpa using a0
      | 1, _ => simpa using a1
      | 2, _ => simpa using a2)
    (by
      intro i hi
      match i, hi with
      | 0, _ => exact s1
      | 1, _ => exact s2
      | 2, _ => exact h3.below g2)
  refine hb.mono ?_
  rintro e w' ⟨u, rfl, hown, hbel⟩
  refine ⟨u, rfl, ?_, grow_trans g2 hbel⟩
  have hn : balSumN [(v1, K, ballots (l.take K)), (.slice (some ⟨W.heap.size, 0, none⟩) 1 1, 1, ballots [s]), (v3, l.length - K, ballots (l.drop K))] = (l.take K ++ s :: l.drop K).length := by simp [balSumN]; omega
  have hcs : balCat [(v1, K, ballots (l.take K)), (.slice (some ⟨W.heap.size, 0, none⟩) 1 1, 1, ballots [s]), (v3, l.length - K, ballots (l.drop K))] = ballots (l.take K ++ s :: l.drop K) := by
    rw [ballots_app, ballots_cons]; simp [balCat, ballots]
  rw [hn, hcs] at hown
  exact World.ownsRow.mono hown g2.size

theorem bal_drop {w : World} {b off cap K : Nat} {l : List Vt.Bl} (hc : BalCells w b off l) (hK : K ≤ l.length) :
    balSrc w (.slice (some ⟨b, off + K * 3, none⟩) (l.length - K) (cap - K)) (l.length - K) (ballots (l.drop K)) := by
  refine .inr ⟨_, _, rfl, by rw [ballots_len, List.length_drop], ?_, ballot_one _⟩
  apply bal_row
  intro k hk
  rw [List.length_drop] at hk
  obtain ⟨c1, c2, c3⟩ := hc (K + k) (by omega)
  have e : off + K * 3 + k * 3 = off + (K + k) * 3 := by omega
  rw [List.getElem_drop, e]
  exact ⟨c1, c2, c3⟩
theorem bal_take {w : World} {b off cap K : Nat} {l : List Vt.Bl} (hc : BalCells w b off l) (hK : K ≤ l.length) :
    balSrc w (.slice (some ⟨b, off, none⟩) K cap) K (ballots (l.take K)) := by
  refine .inr ⟨_, cap, rfl, by rw [ballots_len, List.length_take]; omega, ?_, ballot_one _⟩
  apply bal_row
  intro k hk
  rw [List.length_take] at hk
  rw [List.getElem_take]
  exact hc k (by omega)

set_option maxHeartbeats 4000000 in
theorem pvgive_arg (v : Value) (l : List Vt.Bl) (low : Int) (s : Vt.Bl) (w : World) (hv : BalAt w v l) (hl : l.length ≤ 4398046511103) (h : Vt.may s = false) :
    Calls Try.prog 10 #[v, .int .i64 low, bval s] w fun e w' => ∃ u, e = .returned (.tuple #[u, .int .i64 (Vt.give l low s).2]) ∧ BalNew w.heap.size w' u (Vt.give l low s).1 ∧ Below w.heap.size w w' := by
  have HG := Lib.hid (show Vt.give l low s = (l, 1) by rw [Vt.give, if_pos h])
  have hm := fun W => pvmay s.1 s.2.1 (tx s.2.2) W
  have hmy : (decide (1 ≤ s.1) && decide (s.1 ≤ 64) && decide (1 ≤ s.2.1)) = Vt.may s := rfl
  simp only [hmy] at hm
  clear hmy
  have g0 : Below w.heap.size w (w.alloc (.cells #[iv s.1, iv s.2.1, tx s.2.2] 24)) := (Below.refl _ _).alloc (Nat.le_refl _) _
  have q0 : (w.alloc (.cells #[iv s.1, iv s.2.1, tx s.2.2] 24)).cell? ⟨w.heap.size, 0, none⟩ = some (iv s.1) := by simp
  have q1 : (w.alloc (.cells #[iv s.1, iv s.2.1, tx s.2.2] 24)).cell? ⟨w.heap.size, 1, none⟩ = some (iv s.2.1) := by simp
  have q2 : (w.alloc (.cells #[iv s.1, iv s.2.1, tx s.2.2] 24)).cell? ⟨w.heap.size, 2, none⟩ = some (tx s.2.2) := by simp
  have HV := Lib.hid (hv.below g0)
  have GR := Lib.hid g0
  have Q0 := Lib.hid q0
  have Q1 := Lib.hid q1
  have Q2 := Lib.hid q2
  clear q0 q1 q2 g0
  rw [h] at hm
  clear h hv
  go_enter Try.func10, Try.ntmps10
  go_wp2_with fail
  refine (hm _).mono ?_
  rintro e w1 ⟨rfl, h1⟩
  have r0 := below_cell h1 Q0.out
  have r1 := below_cell h1 Q1.out
  have r2 := below_cell h1 Q2.out
  have g1 := GR.out.trans (h1.mono (by simp))
  go_wp2_with fail
  refine (balClone v l.length (ballots l) _ (HV.out.below h1).src (by omega)).mono ?_
  rintro e w2 ⟨u, rfl, hown, h2⟩
  go_wp2_with fail
  go_ret2
  refine ⟨u, ?_, ?_, grow_trans g1 h2⟩
  · rw [HG.out]; rfl
  · rw [HG.out]; exact BalNew.own hown g1.size

set_option maxHeartbeats 4000000 in
theorem pvgive_old (v : Value) (l : List Vt.Bl) (low : Int) (s : Vt.Bl) (w : World) (hv : BalAt w v l) (hl : l.length ≤ 4398046511103) (h : Vt.may s = true) (h2 : s.2.1 ≤ low) :
    Calls Try.prog 10 #[v, .int .i64 low, bval s] w fun e w' => ∃ u, e = .returned (.tuple #[u, .int .i64 (Vt.give l low s).2]) ∧ BalNew w.heap.size w' u (Vt.give l low s).1 ∧ Below w.heap.size w w' := by
  have HG := Lib.hid (show Vt.give l low s = (l, 9) by rw [Vt.give, if_neg (by rw [h]; decide), if_pos h2])
  have t2 : decide (s.2.1 ≤ low) = true := decide_eq_true h2
  have hm := fun W => pvmay s.1 s.2.1 (tx s.2.2) W
  have hmy : (decide (1 ≤ s.1) && decide (s.1 ≤ 64) && decide (1 ≤ s.2.1)) = Vt.may s := rfl
  simp only [hmy] at hm
  clear hmy
  have g0 : Below w.heap.size w (w.alloc (.cells #[iv s.1, iv s.2.1, tx s.2.2] 24)) := (Below.refl _ _).alloc (Nat.le_refl _) _
  have q0 : (w.alloc (.cells #[iv s.1, iv s.2.1, tx s.2.2] 24)).cell? ⟨w.heap.size, 0, none⟩ = some (iv s.1) := by simp
  have q1 : (w.alloc (.cells #[iv s.1, iv s.2.1, tx s.2.2] 24)).cell? ⟨w.heap.size, 1, none⟩ = some (iv s.2.1) := by simp
  have q2 : (w.alloc (.cells #[iv s.1, iv s.2.1, tx s.2.2] 24)).cell? ⟨w.heap.size, 2, none⟩ = some (tx s.2.2) := by simp
  have HV := Lib.hid (hv.below g0)
  have GR := Lib.hid g0
  have Q0 := Lib.hid q0
  have Q1 := Lib.hid q1
  have Q2 := Lib.hid q2
  clear q0 q1 q2 g0
  rw [h] at hm
  obtain ⟨x, r, t⟩ := s
  simp only [iv] at *
  clear h hv h2
  go_enter Try.func10, Try.ntmps10
  go_wp2_with fail
  refine (hm _).mono ?_
  rintro e w1 ⟨rfl, h1⟩
  have r0 := below_cell h1 Q0.out
  have r1 := below_cell h1 Q1.out
  have r2 := below_cell h1 Q2.out
  have g1 := GR.out.trans (h1.mono (by simp))
  go_wp2_with fail
  refine (balClone v l.length (ballots l) _ (HV.out.below h1).src (by omega)).mono ?_
  rintro e w2 ⟨u, rfl, hown, h2⟩
  go_wp2_with fail
  go_ret2
  refine ⟨u, ?_, ?_, grow_trans g1 h2⟩
  · rw [HG.out]; rfl
  · rw [HG.out]; exact BalNew.own hown g1.size

set_option maxHeartbeats 4000000 in
theorem pvgive_same (v : Value) (l : List Vt.Bl) (low : Int) (s : Vt.Bl) (w : World) (hv : BalAt w v l) (hl : l.length ≤ 4398046511103) (h : Vt.may s = true) (h2 : ¬ s.2.1 ≤ low) (h3 : Vt.find l s.1 s.2.1 = some s.2.2) :
    Calls Try.prog 10 #[v, .int .i64 low, bval s] w fun e w' => ∃ u, e = .returned (.tuple #[u, .int .i64 (Vt.give l low s).2]) ∧ BalNew w.heap.size w' u (Vt.give l low s).1 ∧ Below w.heap.size w w' := by
  have t2 : decide (s.2.1 ≤ low) = false := decide_eq_false h2
  have HG := Lib.hid (show Vt.give l low s = (l, 0) by rw [Vt.give, if_neg (by rw [h]; decide), if_neg h2, h3]; simp)
  have hfd : Vt.found l s.1 s.2.1 = (s.2.2, true) := by rw [Vt.found, h3]; rfl
  have hf := fun W hs => pvfind v l s.1 s.2.1 W hs (by omega)
  have hm := fun W => pvmay s.1 s.2.1 (tx s.2.2) W
  have hmy : (decide (1 ≤ s.1) && decide (s.1 ≤ 64) && decide (1 ≤ s.2.1)) = Vt.may s := rfl
  simp only [hmy] at hm
  clear hmy
  have g0 : Below w.heap.size w (w.alloc (.cells #[iv s.1, iv s.2.1, tx s.2.2] 24)) := (Below.refl _ _).alloc (Nat.le_refl _) _
  have q0 : (w.alloc (.cells #[iv s.1, iv s.2.1, tx s.2.2] 24)).cell? ⟨w.heap.size, 0, none⟩ = some (iv s.1) := by simp
  have q1 : (w.alloc (.cells #[iv s.1, iv s.2.1, tx s.2.2] 24)).cell? ⟨w.heap.size, 1, none⟩ = some (iv s.2.1) := by simp
  have q2 : (w.alloc (.cells #[iv s.1, iv s.2.1, tx s.2.2] 24)).cell? ⟨w.heap.size, 2, none⟩ = some (tx s.2.2) := by simp
  have HV := Lib.hid (hv.below g0)
  have GR := Lib.hid g0
  have Q0 := Lib.hid q0
  have Q1 := Lib.hid q1
  have Q2 := Lib.hid q2
  clear q0 q1 q2 g0
  rw [h] at hm
  obtain ⟨x, r, t⟩ := s
  simp only [iv] at *
  simp only [hfd] at hf
  clear h hv h2 h3 hfd
  go_enter Try.func10, Try.ntmps10
  go_wp2_with fail
  refine (hm _).mono ?_
  rintro e w1 ⟨rfl, h1⟩
  have r0 := below_cell h1 Q0.out
  have r1 := below_cell h1 Q1.out
  have r2 := below_cell h1 Q2.out
  have g1 := GR.out.trans (h1.mono (by simp))
  go_wp2_with fail
  refine (hf _ (HV.out.below h1).flat).mono ?_
  rintro e w2 ⟨rfl, h2⟩
  replace r0 := below_cell h2 r0
  replace r1 := below_cell h2 r1
  replace r2 := below_cell h2 r2
  have g2 := grow_trans g1 h2
  have h12 := grow_trans h1 h2
  clear hf
  go_wp2_with fail
  refine (balClone v l.length (ballots l) _ (HV.out.below h12).src (by omega)).mono ?_
  rintro e w3 ⟨u, rfl, hown, h3⟩
  go_wp2_with fail
  go_ret2
  refine ⟨u, ?_, ?_, grow_trans g2 h3⟩
  · rw [HG.out]; rfl
  · rw [HG.out]; exact BalNew.own hown g2.size

set_option maxHeartbeats 4000000 in
theorem pvgive_other (v : Value) (l : List Vt.Bl) (low : Int) (s : Vt.Bl) (w : World) (hv : BalAt w v l) (hl : l.length ≤ 4398046511103) (d : List UInt8) (h : Vt.may s = true) (h2 : ¬ s.2.1 ≤ low) (h3 : Vt.find l s.1 s.2.1 = some d) (h4 : ¬ d = s.2.2) :
    Calls Try.prog 10 #[v, .int .i64 low, bval s] w fun e w' => ∃ u, e = .returned (.tuple #[u, .int .i64 (Vt.give l low s).2]) ∧ BalNew w.heap.size w' u (Vt.give l low s).1 ∧ Below w.heap.size w w' := by
  have t2 : decide (s.2.1 ≤ low) = false := decide_eq_false h2
  have HG := Lib.hid (show Vt.give l low s = (l, 13) by rw [Vt.give, if_neg (by rw [h]; decide), if_neg h2, h3]; simp [h4])
  have hfd : Vt.found l s.1 s.2.1 = (d, true) := by rw [Vt.found, h3]; rfl
  have hf := fun W hs => pvfind v l s.1 s.2.1 W hs (by omega)
  have hm := fun W => pvmay s.1 s.2.1 (tx s.2.2) W
  have hmy : (decide (1 ≤ s.1) && decide (s.1 ≤ 64) && decide (1 ≤ s.2.1)) = Vt.may s := rfl
  simp only [hmy] at hm
  clear hmy
  have g0 : Below w.heap.size w (w.alloc (.cells #[iv s.1, iv s.2.1, tx s.2.2] 24)) := (Below.refl _ _).alloc (Nat.le_refl _) _
  have q0 : (w.alloc (.cells #[iv s.1, iv s.2.1, tx s.2.2] 24)).cell? ⟨w.heap.size, 0, none⟩ = some (iv s.1) := by simp
  have q1 : (w.alloc (.cells #[iv s.1, iv s.2.1, tx s.2.2] 24)).cell? ⟨w.heap.size, 1, none⟩ = some (iv s.2.1) := by simp
  have q2 : (w.alloc (.cells #[iv s.1, iv s.2.1, tx s.2.2] 24)).cell? ⟨w.heap.size, 2, none⟩ = some (tx s.2.2) := by simp
  have HV := Lib.hid (hv.below g0)
  have GR := Lib.hid g0
  have Q0 := Lib.hid q0
  have Q1 := Lib.hid q1
  have Q2 := Lib.hid q2
  clear q0 q1 q2 g0
  rw [h] at hm
  obtain ⟨x, r, t⟩ := s
  simp only [iv] at *
  simp only [hfd] at hf
  have t4 : (d == t) = false := by simpa using h4
  clear h hv h2 h3 hfd h4
  go_enter Try.func10, Try.ntmps10
  go_wp2_with fail
  refine (hm _).mono ?_
  rintro e w1 ⟨rfl, h1⟩
  have r0 := below_cell h1 Q0.out
  have r1 := below_cell h1 Q1.out
  have r2 := below_cell h1 Q2.out
  have g1 := GR.out.trans (h1.mono (by simp))
  go_wp2_with fail
  refine (hf _ (HV.out.below h1).flat).mono ?_
  rintro e w2 ⟨rfl, h2⟩
  replace r0 := below_cell h2 r0
  replace r1 := below_cell h2 r1
  replace r2 := below_cell h2 r2
  have g2 := grow_trans g1 h2
  have h12 := grow_trans h1 h2
  clear hf
  go_wp2_with fail
  refine (balClone v l.length (ballots l) _ (HV.out.below h12).src (by omega)).mono ?_
  rintro e w3 ⟨u, rfl, hown, h3⟩
  go_wp2_with fail
  go_ret2
  refine ⟨u, ?_, ?_, grow_trans g2 h3⟩
  · rw [HG.out]; rfl
  · rw [HG.out]; exact BalNew.own hown g2.size

set_option maxHeartbeats 4000000 in
theorem pvgive_some (b off cap : Nat) (l : List Vt.Bl) (low : Int) (s : Vt.Bl) (w : World) (hle : l.length ≤ cap) (hcap : cap ≤ 9223372036854775807) (hc : BalCells w b off l) (hl : l.length ≤ 4398046511103) (h : Vt.may s = true) (h2 : ¬ s.2.1 ≤ low) (hf0 : Vt.find l s.1 s.2.1 = none) :
    Calls Try.prog 10 #[.slice (some ⟨b, off, none⟩) l.length cap, .int .i64 low, bval s] w fun e w' => ∃ u, e = .returned (.tuple #[u, .int .i64 (Vt.give l low s).2]) ∧ BalNew w.heap.size w' u (Vt.give l low s).1 ∧ Below w.heap.size w w' := by
  have t2 : decide (s.2.1 ≤ low) = false := decide_eq_false h2
  have HG := Lib.hid (show Vt.give l low s = (Vt.ins s l, 0) by rw [Vt.give, if_neg (by rw [h]; decide), if_neg h2, hf0])
  have hfd : Vt.found l s.1 s.2.1 = ([], false) := by rw [Vt.found, hf0]; rfl
  have hv : BalAt w (.slice (some ⟨b, off, none⟩) l.length cap) l := .inr ⟨b, off, cap, rfl, hle, hcap, hc⟩
  have hf := fun W hs => pvfind (.slice (some ⟨b, off, none⟩) l.length cap) l s.1 s.2.1 W hs (by omega)
  have hm := fun W => pvmay s.1 s.2.1 (tx s.2.2) W
  have hmy : (decide (1 ≤ s.1) && decide (s.1 ≤ 64) && decide (1 ≤ s.2.1)) = Vt.may s := rfl
  simp only [hmy] at hm
  clear hmy
  have g0 : Below w.heap.size w (w.alloc (.cells #[iv s.1, iv s.2.1, tx s.2.2] 24)) := (Below.refl _ _).alloc (Nat.le_refl _) _
  have q0 : (w.alloc (.cells #[iv s.1, iv s.2.1, tx s.2.2] 24)).cell? ⟨w.heap.size, 0, none⟩ = some (iv s.1) := by simp
  have q1 : (w.alloc (.cells #[iv s.1, iv s.2.1, tx s.2.2] 24)).cell? ⟨w.heap.size, 1, none⟩ = some (iv s.2.1) := by simp
  have q2 : (w.alloc (.cells #[iv s.1, iv s.2.1, tx s.2.2] 24)).cell? ⟨w.heap.size, 2, none⟩ = some (tx s.2.2) := by simp
  have HV := Lib.hid (hv.below g0)
  have GR := Lib.hid g0
  have Q0 := Lib.hid q0
  have Q1 := Lib.hid q1
  have Q2 := Lib.hid q2
  clear q0 q1 q2 g0
  rw [h] at hm
  obtain ⟨x, r, t⟩ := s
  simp only [iv] at *
  simp only [hfd] at hf
  have hpl := fun W (PL : BalCells W b off l) => pplace_any b off cap l (x, r, t) W PL (by omega)
  have HINS := Lib.hid (Vt.ins_place (x, r, t) l)
  have hK := Vt.place_le (x, r, t) l
  obtain ⟨K, hKe⟩ : ∃ K, Vt.place (x, r, t) l = K := ⟨_, rfl⟩
  simp only [hKe] at hpl HINS hK
  have hKc : K ≤ cap := by omega
  have hK63 : (K : Int) ≤ 9223372036854775807 := by omega
  have HC := Lib.hid hc
  clear hc hKe
  clear h hv h2 hfd hf0
  go_enter Try.func10, Try.ntmps10
  go_wp2_with fail
  refine (hm _).mono ?_
  rintro e w1 ⟨rfl, h1⟩
  have r0 := below_cell h1 Q0.out
  have r1 := below_cell h1 Q1.out
  have r2 := below_cell h1 Q2.out
  have g1 := GR.out.trans (h1.mono (by simp))
  go_wp2_with fail
  refine (hf _ (HV.out.below h1).flat).mono ?_
  rintro e w2 ⟨rfl, h2⟩
  replace r0 := below_cell h2 r0
  replace r1 := below_cell h2 r1
  replace r2 := below_cell h2 r2
  have g2 := grow_trans g1 h2
  have h12 := grow_trans h1 h2
  clear hf
  have PL : BalCells w2 b off l := (HC.out.below GR.out).below h12
  go_wp2_with fail
  refine (hpl _ PL).mono ?_
  rintro e w3 ⟨rfl, h3⟩
  replace r0 := below_cell h3 r0
  replace r1 := below_cell h3 r1
  replace r2 := below_cell h3 r2
  have g3 := grow_trans g2 h3
  have h13 := grow_trans h12 h3
  rw [HINS.out] at HG
  have hcw : BalCells w3 b off l := (HC.out.below GR.out).below h13
  clear hpl PL hm
  by_cases hcc : K = cap
  · have hKl : K = l.length := by omega
    have hd0 : l.drop K = [] := by rw [hKl]; exact List.drop_length
    have hcat := Lib.hid (bal_cat K l (x, r, t) w3 _ (.slice (some ⟨b, off, none⟩) 0 0) hK hl (bal_take (cap := K) hcw hK) (by rw [hd0, hKl, Nat.sub_self]; exact .inr ⟨_, 0, rfl, rfl, fun j u h => absurd h (by simp [ballots]), ballot_one _⟩))
    clear hd0 hcw
    subst hKl
    subst hcc
    go_upto_region 11 with fail
    go_region_held (fun w' : World => w'.cell? ⟨w.heap.size, 0, none⟩ = some (.int .i64 x) ∧ w'.cell? ⟨w.heap.size, 1, none⟩ = some (.int .i64 r) ∧ w'.cell? ⟨w.heap.size, 2, none⟩ = some (tx t)) (first | go_keep | exact ⟨below_cell hb3 r0, below_cell hb3 r1, below_cell hb3 r2⟩) (first | (go_at_call 22; refine hcat.out.mono ?_; rintro e w4 ⟨u, rfl, hown, hb3⟩))
    all_goals go_wp2
    all_goals go_ret2
    all_goals exact ⟨u, by rw [HG.out]; rfl, by rw [HG.out]; exact BalNew.own hown g3.size, g3.trans (hb3.mono g3.size)⟩
  · have hKc2 : (K : Int) < (cap : Int) := by omega
    have hcat := Lib.hid (bal_cat K l (x, r, t) w3 _ _ hK hl (bal_take (cap := cap) hcw hK) (bal_drop (cap := cap) hcw hK))
    clear hcw
    go_upto_region 11 with fail
    go_region_held (fun w' : World => w'.cell? ⟨w.heap.size, 0, none⟩ = some (.int .i64 x) ∧ w'.cell? ⟨w.heap.size, 1, none⟩ = some (.int .i64 r) ∧ w'.cell? ⟨w.heap.size, 2, none⟩ = some (tx t)) (first | go_keep | exact ⟨below_cell hb3 r0, below_cell hb3 r1, below_cell hb3 r2⟩) (first | (go_at_call 22; refine hcat.out.mono ?_; rintro e w4 ⟨u, rfl, hown, hb3⟩))
    all_goals go_wp2
    all_goals go_ret2
    all_goals exact ⟨u, by rw [HG.out]; rfl, by rw [HG.out]; exact BalNew.own hown g3.size, g3.trans (hb3.mono g3.size)⟩

set_option maxHeartbeats 4000000 in
theorem pvgive_nil (low : Int) (s : Vt.Bl) (w : World) (h : Vt.may s = true) (h2 : ¬ s.2.1 ≤ low) (hf0 : Vt.find [] s.1 s.2.1 = none) :
    Calls Try.prog 10 #[.slice none 0 0, .int .i64 low, bval s] w fun e w' => ∃ u, e = .returned (.tuple #[u, .int .i64 (Vt.give [] low s).2]) ∧ BalNew w.heap.size w' u (Vt.give [] low s).1 ∧ Below w.heap.size w w' := by
  have t2 : decide (s.2.1 ≤ low) = false := decide_eq_false h2
  have HG := Lib.hid (show Vt.give [] low s = (Vt.ins s [], 0) by rw [Vt.give, if_neg (by rw [h]; decide), if_neg h2, hf0])
  have hfd : Vt.found [] s.1 s.2.1 = ([], false) := by rw [Vt.found, hf0]; rfl
  have hv : BalAt w (.slice none 0 0) [] := .inl ⟨none, rfl, rfl⟩
  have hf := fun W hs => pvfind (.slice none 0 0) [] s.1 s.2.1 W hs (by simp; try omega)
  have hm := fun W => pvmay s.1 s.2.1 (tx s.2.2) W
  have hmy : (decide (1 ≤ s.1) && decide (s.1 ≤ 64) && decide (1 ≤ s.2.1)) = Vt.may s := rfl
  simp only [hmy] at hm
  clear hmy
  have g0 : Below w.heap.size w (w.alloc (.cells #[iv s.1, iv s.2.1, tx s.2.2] 24)) := (Below.refl _ _).alloc (Nat.le_refl _) _
  have q0 : (w.alloc (.cells #[iv s.1, iv s.2.1, tx s.2.2] 24)).cell? ⟨w.heap.size, 0, none⟩ = some (iv s.1) := by simp
  have q1 : (w.alloc (.cells #[iv s.1, iv s.2.1, tx s.2.2] 24)).cell? ⟨w.heap.size, 1, none⟩ = some (iv s.2.1) := by simp
  have q2 : (w.alloc (.cells #[iv s.1, iv s.2.1, tx s.2.2] 24)).cell? ⟨w.heap.size, 2, none⟩ = some (tx s.2.2) := by simp
  have HV := Lib.hid (hv.below g0)
  have GR := Lib.hid g0
  have Q0 := Lib.hid q0
  have Q1 := Lib.hid q1
  have Q2 := Lib.hid q2
  clear q0 q1 q2 g0
  rw [h] at hm
  obtain ⟨x, r, t⟩ := s
  simp only [iv] at *
  simp only [hfd] at hf
  have hpl := fun W (PL : True) => pplace_nil (none) 0 (x, r, t) W
  clear h hv h2 hfd hf0
  go_enter Try.func10, Try.ntmps10
  go_wp2_with fail
  refine (hm _).mono ?_
  rintro e w1 ⟨rfl, h1⟩
  have r0 := below_cell h1 Q0.out
  have r1 := below_cell h1 Q1.out
  have r2 := below_cell h1 Q2.out
  have g1 := GR.out.trans (h1.mono (by simp))
  go_wp2_with fail
  refine (hf _ (HV.out.below h1).flat).mono ?_
  rintro e w2 ⟨rfl, h2⟩
  replace r0 := below_cell h2 r0
  replace r1 := below_cell h2 r1
  replace r2 := below_cell h2 r2
  have g2 := grow_trans g1 h2
  have h12 := grow_trans h1 h2
  clear hf
  have PL : True := trivial
  go_wp2_with fail
  refine (hpl _ PL).mono ?_
  rintro e w3 ⟨rfl, h3⟩
  replace r0 := below_cell h3 r0
  replace r1 := below_cell h3 r1
  replace r2 := below_cell h3 r2
  have g3 := grow_trans g2 h3
  have h13 := grow_trans h12 h3
  have hcat := Lib.hid (bal_cat 0 [] (x, r, t) w3 (.slice none 0 0) (.slice none 0 0) (by simp) (by simp) (.inl ⟨rfl, rfl, rfl⟩) (.inl ⟨rfl, rfl, rfl⟩))
  clear hpl PL hm
  go_upto_region 11 with fail
  go_region_held (fun w' : World => w'.cell? ⟨w.heap.size, 0, none⟩ = some (.int .i64 x) ∧ w'.cell? ⟨w.heap.size, 1, none⟩ = some (.int .i64 r) ∧ w'.cell? ⟨w.heap.size, 2, none⟩ = some (tx t)) (first | go_keep | exact ⟨below_cell hb3 r0, below_cell hb3 r1, below_cell hb3 r2⟩) (first | (go_at_call 22; refine hcat.out.mono ?_; rintro e w4 ⟨u, rfl, hown, hb3⟩))
  all_goals go_wp2
  all_goals go_ret2
  all_goals exact ⟨u, by rw [HG.out]; rfl, by rw [HG.out]; exact BalNew.own hown g3.size, g3.trans (hb3.mono g3.size)⟩

set_option maxHeartbeats 4000000 in
theorem pvgive_nil2 (ad : Addr) (low : Int) (s : Vt.Bl) (w : World) (h : Vt.may s = true) (h2 : ¬ s.2.1 ≤ low) (hf0 : Vt.find [] s.1 s.2.1 = none) :
    Calls Try.prog 10 #[.slice (some ad) 0 0, .int .i64 low, bval s] w fun e w' => ∃ u, e = .returned (.tuple #[u, .int .i64 (Vt.give [] low s).2]) ∧ BalNew w.heap.size w' u (Vt.give [] low s).1 ∧ Below w.heap.size w w' := by
  have t2 : decide (s.2.1 ≤ low) = false := decide_eq_false h2
  have HG := Lib.hid (show Vt.give [] low s = (Vt.ins s [], 0) by rw [Vt.give, if_neg (by rw [h]; decide), if_neg h2, hf0])
  have hfd : Vt.found [] s.1 s.2.1 = ([], false) := by rw [Vt.found, hf0]; rfl
  have hv : BalAt w (.slice (some ad) 0 0) [] := .inl ⟨some ad, rfl, rfl⟩
  have hf := fun W hs => pvfind (.slice (some ad) 0 0) [] s.1 s.2.1 W hs (by simp; try omega)
  have hm := fun W => pvmay s.1 s.2.1 (tx s.2.2) W
  have hmy : (decide (1 ≤ s.1) && decide (s.1 ≤ 64) && decide (1 ≤ s.2.1)) = Vt.may s := rfl
  simp only [hmy] at hm
  clear hmy
  have g0 : Below w.heap.size w (w.alloc (.cells #[iv s.1, iv s.2.1, tx s.2.2] 24)) := (Below.refl _ _).alloc (Nat.le_refl _) _
  have q0 : (w.alloc (.cells #[iv s.1, iv s.2.1, tx s.2.2] 24)).cell? ⟨w.heap.size, 0, none⟩ = some (iv s.1) := by simp
  have q1 : (w.alloc (.cells #[iv s.1, iv s.2.1, tx s.2.2] 24)).cell? ⟨w.heap.size, 1, none⟩ = some (iv s.2.1) := by simp
  have q2 : (w.alloc (.cells #[iv s.1, iv s.2.1, tx s.2.2] 24)).cell? ⟨w.heap.size, 2, none⟩ = some (tx s.2.2) := by simp
  have HV := Lib.hid (hv.below g0)
  have GR := Lib.hid g0
  have Q0 := Lib.hid q0
  have Q1 := Lib.hid q1
  have Q2 := Lib.hid q2
  clear q0 q1 q2 g0
  rw [h] at hm
  obtain ⟨x, r, t⟩ := s
  simp only [iv] at *
  simp only [hfd] at hf
  have hpl := fun W (PL : True) => pplace_nil (some ad) 0 (x, r, t) W
  clear h hv h2 hfd hf0
  go_enter Try.func10, Try.ntmps10
  go_wp2_with fail
  refine (hm _).mono ?_
  rintro e w1 ⟨rfl, h1⟩
  have r0 := below_cell h1 Q0.out
  have r1 := below_cell h1 Q1.out
  have r2 := below_cell h1 Q2.out
  have g1 := GR.out.trans (h1.mono (by simp))
  go_wp2_with fail
  refine (hf _ (HV.out.below h1).flat).mono ?_
  rintro e w2 ⟨rfl, h2⟩
  replace r0 := below_cell h2 r0
  replace r1 := below_cell h2 r1
  replace r2 := below_cell h2 r2
  have g2 := grow_trans g1 h2
  have h12 := grow_trans h1 h2
  clear hf
  have PL : True := trivial
  go_wp2_with fail
  refine (hpl _ PL).mono ?_
  rintro e w3 ⟨rfl, h3⟩
  replace r0 := below_cell h3 r0
  replace r1 := below_cell h3 r1
  replace r2 := below_cell h3 r2
  have g3 := grow_trans g2 h3
  have h13 := grow_trans h12 h3
  have hcat := Lib.hid (bal_cat 0 [] (x, r, t) w3 (.slice (some ad) 0 0) (.slice (some ad) 0 0) (by simp) (by simp) (.inr ⟨ad, 0, rfl, rfl, fun j u h => absurd h (by simp [ballots]), ballot_one _⟩) (.inr ⟨ad, 0, rfl, rfl, fun j u h => absurd h (by simp [ballots]), ballot_one _⟩))
  clear hpl PL hm
  go_upto_region 11 with fail
  go_region_held (fun w' : World => w'.cell? ⟨w.heap.size, 0, none⟩ = some (.int .i64 x) ∧ w'.cell? ⟨w.heap.size, 1, none⟩ = some (.int .i64 r) ∧ w'.cell? ⟨w.heap.size, 2, none⟩ = some (tx t)) (first | go_keep | exact ⟨below_cell hb3 r0, below_cell hb3 r1, below_cell hb3 r2⟩) (first | (go_at_call 22; refine hcat.out.mono ?_; rintro e w4 ⟨u, rfl, hown, hb3⟩))
  all_goals go_wp2
  all_goals go_ret2
  all_goals exact ⟨u, by rw [HG.out]; rfl, by rw [HG.out]; exact BalNew.own hown g3.size, g3.trans (hb3.mono g3.size)⟩

theorem pvgive (v : Value) (l : List Vt.Bl) (low : Int) (s : Vt.Bl) (w : World) (hv : BalAt w v l) (hl : l.length ≤ 4398046511103) :
    Calls Try.prog 10 #[v, .int .i64 low, bval s] w fun e w' => ∃ u, e = .returned (.tuple #[u, .int .i64 (Vt.give l low s).2]) ∧ BalNew w.heap.size w' u (Vt.give l low s).1 ∧ Below w.heap.size w w' := by
  cases h : Vt.may s with
  | false => exact pvgive_arg v l low s w hv hl h
  | true =>
    by_cases h2 : s.2.1 ≤ low
    · exact pvgive_old v l low s w hv hl h h2
    · cases h3 : Vt.find l s.1 s.2.1 with
      | some d =>
        by_cases h4 : d = s.2.2
        · exact pvgive_same v l low s w hv hl h h2 (by rw [h3, h4])
        · exact pvgive_other v l low s w hv hl d h h2 h3 h4
      | none =>
        rcases hv with ⟨a, rfl, rfl⟩ | ⟨b, off, cap, rfl, h5, h6, hc⟩
        · cases a with
          | none => exact pvgive_nil low s w h h2 h3
          | some ad => exact pvgive_nil2 ad low s w h h2 h3
        · exact pvgive_some b off cap l low s w h5 h6 hc hl h h2 h3
end Go.Proofs.Ytjngjmhhfhkbkaa
