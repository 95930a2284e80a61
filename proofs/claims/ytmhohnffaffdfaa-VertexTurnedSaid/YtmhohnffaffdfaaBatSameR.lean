/- The document's Same of batches. -/
import Derived.Test.YtmhohnffaffdfaaBatRTakeT
import Derived.Test.YtmhohnffaffdfaaDigSame
import Derived.Test.YtmhohnffaffdfaaKeep
namespace Go.Proofs.Ytmhohnffaffdfaa
open Go.RowKit

theorem bt_beq (a b : Bt.Bat) : (a == b) = ((a.1 == b.1) && ((a.2.1 == b.2.1) && (a.2.2 == b.2.2))) := rfl

set_option maxHeartbeats 2000000 in
theorem rbsame (o q o' q' : Int) (va vb : Value) (a b : List (List UInt8)) (w : World) (ha : TxAt w va a) (hb : TxAt w vb b) (la : a.length ≤ 140737488351232) :
    Calls Try.prog 43 #[batV o q va, batV o' q' vb] w fun e w' => e = .returned (.bool (((o, q, a) : Bt.Bat) == (o', q', b))) ∧ Below w.heap.size w w' := by
  rw [bt_beq]
  have hg : Below w.heap.size w ((w.alloc (.cells #[.int .i64 o, .int .i64 q, va] 53)).alloc (.cells #[.int .i64 o', .int .i64 q', vb] 53)) := ((Below.refl _ _).alloc (Nat.le_refl _) _).alloc (by simp) _
  have hsame := same_any va vb a b _ (ha.below hg) (hb.below hg) la
  obtain ⟨aa, ca, rfl⟩ := ha.len
  obtain ⟨ab, cb, rfl⟩ := hb.len
  generalize (a == b) = r at *
  have HS := Lib.hid hsame
  have HG := Lib.hid hg
  clear hsame hg ha hb
  cases r with
  | false =>
    simp only [Bool.and_false]
    go_enter Try.func43, Try.ntmps43
    go_wp2_with fail
    refine HS.out.mono ?_
    rintro e w1 ⟨rfl, k, rfl⟩
    go_wp2
    go_ret
    exact ⟨rfl, below_drewN HG.out _⟩
  | true =>
    simp only [Bool.and_true]
    by_cases h1 : o = o'
    · subst h1
      by_cases h2 : q = q'
      · subst h2
        simp only [beq_self_eq_true, Bool.and_self]
        go_enter Try.func43, Try.ntmps43
        go_wp2_with fail
        refine HS.out.mono ?_
        rintro e w1 ⟨rfl, k, rfl⟩
        go_wp2
        go_ret
        exact ⟨rfl, below_drewN HG.out _⟩
      · have t2 : (q == q') = false := beq_eq_false_iff_ne.2 h2
        simp only [t2, Bool.and_false]
        clear h2
        go_enter Try.func43, Try.ntmps43
        go_wp2_with fail
        refine HS.out.mono ?_
        rintro e w1 ⟨rfl, k, rfl⟩
        go_wp2
        go_ret
        exact ⟨rfl, below_drewN HG.out _⟩
    · have t1 : (o == o') = false := beq_eq_false_iff_ne.2 h1
      simp only [t1, Bool.false_and]
      clear h1
      go_enter Try.func43, Try.ntmps43
      go_wp2_with fail
      refine HS.out.mono ?_
      rintro e w1 ⟨rfl, k, rfl⟩
      go_wp2
      go_ret
      exact ⟨rfl, below_drewN HG.out _⟩
end Go.Proofs.Ytmhohnffaffdfaa
