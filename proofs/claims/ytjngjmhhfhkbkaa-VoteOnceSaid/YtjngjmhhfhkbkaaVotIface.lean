/- Package vote as it landed, and the document's answer, as the statements of layer 9 use them; the document's example. -/
import Derived.Test.YtjngjmhhfhkbkaaVotRGive
import Derived.Test.YtjngjmhhfhkbkaaVotFloorC
import Derived.Test.YtjngjmhhfhkbkaaVotPRight
import Derived.Test.YtjngjmhhfhkbkaaVoteRRight
import Derived.Test.YtjngjmhhfhkbkaaVoteSame
namespace Go.Proofs.Ytjngjmhhfhkbkaa
open Go.RowKit

theorem BalAt.len {w : World} {v : Value} {l : List Vt.Bl} (h : BalAt w v l) : ∃ a cap, v = .slice a l.length cap := h.flat.len (n := l.length) (ballots_len l) (by omega)
theorem give_len (l : List Vt.Bl) (low : Int) (b : Vt.Bl) : (Vt.give l low b).1.length ≤ l.length + 1 := by
  unfold Vt.give
  split
  · simp
  · split
    · simp
    · split
      · split <;> simp
      · simp [Vt.ins_len]
theorem floor_len (l : List Vt.Bl) (low : Int) : (Vt.floor l low).length ≤ l.length := List.length_filter_le _ _
/-- A vote more, as the program gives it. -/
theorem pgive_eq {v : Value} {l m : List Vt.Bl} {low : Int} {s : Vt.Bl} {c : Int} (h : Vt.give l low s = (m, c)) (w : World) (hv : BalAt w v l) (hl : l.length ≤ 4398046511103) :
    Calls Try.prog 10 #[v, .int .i64 low, bval s] w fun e w' => ∃ u, e = .returned (.tuple #[u, .int .i64 c]) ∧ BalAt w' u m ∧ Below w.heap.size w w' := by
  have := pvgive v l low s w hv hl
  rw [h] at this
  exact this.mono fun _ _ ⟨u, h1, h2, h3⟩ => ⟨u, h1, h2.1, h3⟩
theorem pgive_new {v : Value} {l m : List Vt.Bl} {low : Int} {s : Vt.Bl} {c : Int} (h : Vt.give l low s = (m, c)) (w : World) (hv : BalAt w v l) (hl : l.length ≤ 4398046511103) :
    Calls Try.prog 10 #[v, .int .i64 low, bval s] w fun e w' => ∃ u, e = .returned (.tuple #[u, .int .i64 c]) ∧ BalNew w.heap.size w' u m ∧ Below w.heap.size w w' := by
  have := pvgive v l low s w hv hl
  rw [h] at this
  exact this
theorem rgive_eq {v : Value} {l m : List Vt.Bl} {low : Int} {s : Vt.Bl} {c : Int} (h : Vt.give l low s = (m, c)) (w : World) (hv : BalAt w v l) (hl : l.length ≤ 4398046511102) :
    Calls Try.prog 11 #[v, .int .i64 low, bval s] w fun e w' => ∃ u, e = .returned (.tuple #[u, .int .i64 c]) ∧ FlatAt w' u 3 (ballots m) ∧ Below w.heap.size w w' := by
  have flatten : ∀ {x : List Vt.Bl} {k : Int}, Calls Try.prog 11 #[v, .int .i64 low, bval s] w (fun e w' => ∃ u, e = .returned (.tuple #[u, .int .i64 k]) ∧ BalAt w' u x ∧ Below w.heap.size w w') →
      Calls Try.prog 11 #[v, .int .i64 low, bval s] w (fun e w' => ∃ u, e = .returned (.tuple #[u, .int .i64 k]) ∧ FlatAt w' u 3 (ballots x) ∧ Below w.heap.size w w') :=
    fun hc => hc.mono fun _ _ ⟨u, h1, h2, h3⟩ => ⟨u, h1, h2.flat, h3⟩
  have key : Calls Try.prog 11 #[v, .int .i64 low, bval s] w fun e w' => ∃ u, e = .returned (.tuple #[u, .int .i64 (Vt.give l low s).2]) ∧ FlatAt w' u 3 (ballots (Vt.give l low s).1) ∧ Below w.heap.size w w' := by
    cases hm : Vt.may s with
    | false => exact flatten (rvgive_arg v l low s w hv hm)
    | true =>
      by_cases h2 : s.2.1 ≤ low
      · exact flatten (rvgive_old v l low s w hv hm h2)
      · cases h3 : Vt.find l s.1 s.2.1 with
        | some d =>
          by_cases h4 : d = s.2.2
          · exact flatten (rvgive_same v l low s w hv hl hm h2 (by rw [h3, h4]))
          · exact flatten (rvgive_other v l low s w hv hl d hm h2 h3 h4)
        | none =>
          have e : Vt.give l low s = (Vt.ins s l, 0) := by rw [Vt.give, if_neg (by rw [hm]; decide), if_neg h2, h3]
          rw [e]
          exact rvgive_new v l low s w hv hl hm h2 h3
  rw [h] at key
  exact key
theorem pfloor_eq {v : Value} {l m : List Vt.Bl} {low : Int} (h : Vt.floor l low = m) (w : World) (hv : BalAt w v l) (hl : l.length ≤ 4398046511103) :
    Calls Try.prog 13 #[v, .int .i64 low] w fun e w' => ∃ u, e = .returned u ∧ BalAt w' u m ∧ Below w.heap.size w w' := by subst h; exact (pvfloor v l low w hv hl).mono fun _ _ ⟨u, h1, h2, h3⟩ => ⟨u, h1, h2.1, h3⟩
theorem rfloor_eq {v : Value} {l m : List Vt.Bl} {low : Int} (h : Vt.floor l low = m) (w : World) (hs : FlatAt w v 3 (ballots l)) (hl : l.length ≤ 4398046511000) :
    Calls Try.prog 14 #[v, .int .i64 low] w fun e w' => ∃ u, e = .returned u ∧ FlatAt w' u 3 (ballots m) ∧ Below w.heap.size w w' := by subst h; exact rvfloor v l low w hs hl
theorem pright_eq {v : Value} {l : List Vt.Bl} {r : Bool} (h : Vt.right l = r) (w : World) (hs : FlatAt w v 3 (ballots l)) (hl : l.length ≤ 140737488351232) :
    Calls Try.prog 17 #[v] w fun e w' => e = .returned (.bool r) ∧ Below w.heap.size w w' := by subst h; exact pvright v l w hs hl
theorem rright_eq {v : Value} {l : List Vt.Bl} {r : Bool} (h : Vt.right l = r) (w : World) (hs : FlatAt w v 3 (ballots l)) (hl : l.length ≤ 140737488351232) :
    Calls Try.prog 18 #[v] w fun e w' => e = .returned (.bool r) ∧ Below w.heap.size w w' := by subst h; exact rvright v l w hs hl
theorem pfind_eq {v : Value} {l : List Vt.Bl} {a r : Int} {t : List UInt8} {c : Bool} (h : Vt.found l a r = (t, c)) (w : World) (hs : FlatAt w v 3 (ballots l)) (hl : l.length ≤ 140737488351232) :
    Calls Try.prog 15 #[v, .int .i64 a, .int .i64 r] w fun e w' => e = .returned (.tuple #[tx t, .bool c]) ∧ Below w.heap.size w w' := by
  have := pvfind v l a r w hs hl
  rw [h] at this
  exact this
theorem rfind_eq {v : Value} {l : List Vt.Bl} {a r : Int} {t : List UInt8} {c : Bool} (h : Vt.found l a r = (t, c)) (w : World) (hs : FlatAt w v 3 (ballots l)) (hl : l.length ≤ 140737488351232) :
    Calls Try.prog 16 #[v, .int .i64 a, .int .i64 r] w fun e w' => e = .returned (.tuple #[tx t, .bool c]) ∧ Below w.heap.size w w' := by
  have := drew_below (rvfind v l a r w hs hl)
  rw [h] at this
  exact this
theorem rsame_eq {va vb : Value} {a b : List Vt.Bl} {c : Bool} (h : decide (a = b) = c) (w : World) (ha : FlatAt w va 3 (ballots a)) (hb : FlatAt w vb 3 (ballots b)) (la : a.length ≤ 140737488351232) :
    Calls Try.prog 12 #[va, vb] w fun e w' => e = .returned (.bool c) ∧ Below w.heap.size w w' := by subst h; exact drew_below (rvsame va vb a b w ha hb la)

set_option maxHeartbeats 2000000 in
theorem vtShown (w : World) : Calls Try.prog 9 #[] w fun e w' => e = .returned (.bool true) ∧ Below w.heap.size w w' := by
  have p1 : Vt.give [] 0 ((1, 2, [120]) : Vt.Bl) = ([(1, 2, [120])], 0) := by decide +kernel
  have p2 : Vt.give [((1, 2, [120]) : Vt.Bl)] 0 (1, 2, [121]) = ([(1, 2, [120])], 13) := by decide +kernel
  have p3 : Vt.give [((1, 2, [120]) : Vt.Bl)] 2 (1, 2, [120]) = ([(1, 2, [120])], 9) := by decide +kernel
  have p4 : Vt.right [((1, 2, [120]) : Vt.Bl)] = true := by decide +kernel
  have P1 := Lib.hid p1
  have P2 := Lib.hid p2
  have P3 := Lib.hid p3
  have P4 := Lib.hid p4
  clear p1 p2 p3 p4
  go_enter Try.func9, Try.ntmps9
  go_wp2_with fail
  refine (pgive_eq P1.out _ (.inl ⟨none, rfl, rfl⟩) (by simp)).mono ?_
  rintro e w1 ⟨u1, rfl, hv1, h1⟩
  have HV1 := Lib.hid hv1
  obtain ⟨a1, c1, rfl⟩ := hv1.len
  clear hv1
  go_wp2_with fail
  refine (pgive_eq P2.out _ HV1.out (by simp)).mono ?_
  rintro e w2 ⟨u2, rfl, _, h2⟩
  have g2 := grow_trans h1 h2
  go_wp2_with fail
  refine (pgive_eq P3.out _ (HV1.out.below h2) (by simp)).mono ?_
  rintro e w3 ⟨u3, rfl, _, h3⟩
  have g3 := grow_trans g2 h3
  have h23 := grow_trans h2 h3
  go_wp2_with fail
  refine (pright_eq P4.out _ (HV1.out.below h23).flat (by simp)).mono ?_
  rintro e w4 ⟨rfl, h4⟩
  have g4 := grow_trans g3 h4
  go_wp2_with fail
  go_ret
  exact ⟨rfl, g4⟩
end Go.Proofs.Ytjngjmhhfhkbkaa
