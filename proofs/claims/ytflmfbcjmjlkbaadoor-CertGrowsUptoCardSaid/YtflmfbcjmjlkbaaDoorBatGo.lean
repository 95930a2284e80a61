/- Package batch as it landed, and the document's: which batches may be. -/
import Derived.Test.YtflmfbcjmjlkbaaDoorBatMath
import Derived.Test.YtflmfbcjmjlkbaaDoorTxs
namespace Bt
def wrong (t : List UInt8) : Bool := decide (t = [] ∨ 48 < t.length)
def mayT (l : List (List UInt8)) : Bool := decide (∀ t ∈ l, 1 ≤ t.length ∧ t.length ≤ 48)
theorem wrong_may (t : List UInt8) : wrong t = false ↔ 1 ≤ t.length ∧ t.length ≤ 48 := by
  rw [wrong, decide_eq_false_iff_not]
  cases t with
  | nil => simp
  | cons x t => simp
theorem may_eq (o q : Int) (l : List (List UInt8)) : may (o, q, l) = (decide (1 ≤ o) && decide (o ≤ 64) && decide (1 ≤ q) && decide (q ≤ 1073741824) && decide (1 ≤ l.length) && decide (l.length ≤ 4) && mayT l) := by
  rw [may, mayT, Bool.eq_iff_iff]
  simp only [decide_eq_true_iff, Bool.and_eq_true]
  constructor
  · rintro ⟨h1, h2, h3, h4, h5, h6, h7⟩; exact ⟨⟨⟨⟨⟨⟨h1, h2⟩, h3⟩, h4⟩, h5⟩, h6⟩, h7⟩
  · rintro ⟨⟨⟨⟨⟨⟨h1, h2⟩, h3⟩, h4⟩, h5⟩, h6⟩, h7⟩; exact ⟨h1, h2, h3, h4, h5, h6, h7⟩
theorem mayT_hit (l : List (List UInt8)) (k : Nat) (h : k < l.length) (hw : wrong l[k] = true) : mayT l = false := by
  rw [mayT, decide_eq_false_iff_not]
  intro hh
  have := (wrong_may l[k]).2 (hh _ (List.getElem_mem h))
  rw [hw] at this; cases this
theorem mayT_all (l : List (List UInt8)) (h : ∀ j (hj : j < l.length), wrong l[j] = false) : mayT l = true := by
  rw [mayT, decide_eq_true_iff]
  intro t ht
  obtain ⟨i, hi, rfl⟩ := List.getElem_of_mem ht
  exact (wrong_may _).1 (h i hi)
end Bt
namespace Go.Proofs.YtflmfbcjmjlkbaaDoor
open Go.RowKit

/-- A batch as a value. -/
abbrev batV (o q : Int) (v : Value) : Value := .agg #[.int .i64 o, .int .i64 q, v]

set_option maxHeartbeats 1000000 in
theorem pwrong (t : List UInt8) (w : World) : Calls Tryd.prog 111 #[tx t] w fun e w' => e = .returned (.bool (Bt.wrong t)) ∧ w' = w := by
  cases t with
  | nil =>
    go_enter Tryd.func111, Tryd.ntmps111
    go_wp2
    go_ret
    exact ⟨rfl, rfl⟩
  | cons x t =>
    have e : Bt.wrong (x :: t) = decide (48 < t.length + 1) := by simp [Bt.wrong]
    have e2 : decide (48 < (t.length : Int) + 1) = decide (48 < t.length + 1) := decide_eq_decide.mpr (by omega)
    rw [e, ← e2]
    clear e e2
    go_enter Tryd.func111, Tryd.ntmps111
    go_wp2
    go_ret
    exact ⟨rfl, rfl⟩

def idxW (l : List (List UInt8)) (r : Int) : Prop := (r = -1 ∧ Bt.mayT l = true) ∨ (0 ≤ r ∧ Bt.mayT l = false)

set_option maxHeartbeats 1000000 in
theorem pidxW (v : Value) (l : List (List UInt8)) (w : World) (hv : TxAt w v l) (hl : l.length ≤ 140737488351232) :
    Calls Tryd.prog 122 #[v, .func (.func 111) #[] #[]] w fun e w' => ∃ r, e = .returned (.int .i64 r) ∧ idxW l r ∧ Below w.heap.size w w' := by
  rcases hv with ⟨a, cap, rfl, rfl⟩ | ⟨b, off, cap, rfl, hc⟩
  · go_enter Tryd.func122, Tryd.ntmps122
    go_wp2_with fail
    refine wp_loop_rounds 1 ?_
    rw [rounds_succ]
    go_wp2
    go_ret
    exact ⟨_, rfl, .inl ⟨rfl, by simp [Bt.mayT]⟩, Below.refl _ _⟩
  · have HC := Lib.hid hc
    clear hc
    go_enter Tryd.func122, Tryd.ntmps122
    go_wp2_with fail
    go_loopw [5, 8] (fun _ i wr => ∃ k : Nat, i = .int .i64 k ∧ k ≤ l.length ∧ (∀ j (hj : j < l.length), j < k → Bt.wrong l[j] = false) ∧ Below w.heap.size w wr) (fun _ i _ => l.length - (intOf i).toNat)
    case atStart => exact ⟨0, rfl, by omega, fun _ _ h => absurd h (by omega), Below.refl _ _⟩
    case round =>
      obtain ⟨k, rfl, hk, hn, hbel⟩ := hrel
      have HN := Lib.hid hn
      have HB := Lib.hid hbel
      clear hn hbel
      by_cases hlt : k < l.length
      · have c1 := below_cell HB.out (HC.out k hlt)
        have hcl := fun W => pwrong l[k] W
        have hstep : Bt.wrong l[k] = false → ∀ j (hj : j < l.length), j < k + 1 → Bt.wrong l[j] = false := by
          intro he j hj hjk
          by_cases e : j = k
          · subst e; exact he
          · exact HN.out j hj (by omega)
        have hfound : Bt.wrong l[k] = true → Bt.mayT l = false := fun he => Bt.mayT_hit l k hlt he
        have HS := Lib.hid hstep
        have HF := Lib.hid hfound
        clear hstep hfound
        obtain ⟨y, hy⟩ : ∃ y, l[k] = y := ⟨_, rfl⟩
        rw [hy] at c1 hcl HS HF
        cases hr : Bt.wrong y with
        | true =>
          rw [hr] at hcl
          have HF2 := Lib.hid (HF.out hr)
          clear hr hy
          go_wp2_with fail
          refine (hcl _).mono ?_
          rintro e w1 ⟨rfl, rfl⟩
          go_wp2
          go_ret
          exact ⟨_, rfl, .inr ⟨by omega, HF2.out⟩, HB.out⟩
        | false =>
          rw [hr] at hcl
          have HS2 := Lib.hid (HS.out hr)
          clear hr hy
          go_wp2_with fail
          refine (hcl _).mono ?_
          rintro e w1 ⟨rfl, rfl⟩
          go_wp2
          go_roundw
          case rel => exact ⟨k + 1, by go_num, hlt, HS2.out, HB.out⟩
          case measure => simp [intOf]; omega
      · obtain rfl : k = l.length := by omega
        have HF := Lib.hid (Bt.mayT_all l fun j hj => HN.out j hj hj)
        go_wp2
        go_ret
        exact ⟨_, rfl, .inl ⟨rfl, HF.out⟩, HB.out⟩

set_option maxHeartbeats 1000000 in
theorem pcontW (v : Value) (l : List (List UInt8)) (w : World) (hv : TxAt w v l) (hl : l.length ≤ 140737488351232) :
    Calls Tryd.prog 112 #[v, .func (.func 111) #[] #[]] w fun e w' => e = .returned (.bool (!Bt.mayT l)) ∧ Below w.heap.size w w' := by
  have hi := fun W h => pidxW v l W h hl
  have HV := Lib.hid hv
  clear hv
  cases hm : Bt.mayT l with
  | true =>
    have hx : ∀ r, idxW l r → r = -1 := fun r hr => by
      rcases hr with ⟨h, _⟩ | ⟨_, h⟩
      · exact h
      · rw [hm] at h; cases h
    have HX := Lib.hid hx
    clear hx hm
    go_enter Tryd.func112, Tryd.ntmps112
    go_wp2_with fail
    refine (hi _ HV.out).mono ?_
    rintro e w1 ⟨r, rfl, hr, hb⟩
    obtain rfl := HX.out r hr
    clear hr hi
    go_wp2
    go_ret
    exact ⟨rfl, hb⟩
  | false =>
    have hx : ∀ r, idxW l r → decide (0 ≤ r) = true := fun r hr => by
      rcases hr with ⟨_, h⟩ | ⟨h, _⟩
      · rw [hm] at h; cases h
      · simpa using h
    have HX := Lib.hid hx
    clear hx hm
    go_enter Tryd.func112, Tryd.ntmps112
    go_wp2_with fail
    refine (hi _ HV.out).mono ?_
    rintro e w1 ⟨r, rfl, hr, hb⟩
    have t1 := HX.out r hr
    clear hr hi
    go_wp2
    go_ret
    exact ⟨rfl, hb⟩

set_option maxHeartbeats 2000000 in
theorem pbmay (o q : Int) (v : Value) (l : List (List UInt8)) (w : World) (hv : TxAt w v l) (hl : l.length ≤ 140737488351232) :
    Calls Tryd.prog 82 #[batV o q v] w fun e w' => e = .returned (.bool (Bt.may (o, q, l))) ∧ Below w.heap.size w w' := by
  rw [Bt.may_eq]
  obtain ⟨aa, cap, rfl⟩ := hv.len
  have hc := fun W h => pcontW (.slice aa l.length cap) l W h hl
  have HV := Lib.hid hv
  have hg : Below w.heap.size w (w.alloc (.cells #[.int .i64 o, .int .i64 q, .slice aa l.length cap] 68)) := (Below.refl _ _).alloc (Nat.le_refl _) _
  have GR := Lib.hid hg
  clear hv hg
  by_cases h1 : o < 1
  · rw [decide_eq_false (show ¬ 1 ≤ o by omega)]
    simp only [Bool.false_and]
    clear hc
    go_enter Tryd.func82, Tryd.ntmps82
    go_wp2
    go_ret
    exact ⟨rfl, GR.out⟩
  rw [decide_eq_true (show 1 ≤ o by omega)]
  have t1 : decide (o < 1) = false := decide_eq_false h1
  by_cases h2 : 64 < o
  · rw [decide_eq_false (show ¬ o ≤ 64 by omega)]
    simp only [Bool.true_and, Bool.false_and]
    clear hc h1
    go_enter Tryd.func82, Tryd.ntmps82
    go_wp2
    go_ret
    exact ⟨rfl, GR.out⟩
  rw [decide_eq_true (show o ≤ 64 by omega)]
  have t2 : decide (64 < o) = false := decide_eq_false h2
  by_cases h3 : q < 1
  · rw [decide_eq_false (show ¬ 1 ≤ q by omega)]
    simp only [Bool.true_and, Bool.false_and]
    clear hc h1 h2
    go_enter Tryd.func82, Tryd.ntmps82
    go_wp2
    go_ret
    exact ⟨rfl, GR.out⟩
  rw [decide_eq_true (show 1 ≤ q by omega)]
  have t3 : decide (q < 1) = false := decide_eq_false h3
  by_cases h4 : 1073741824 < q
  · rw [decide_eq_false (show ¬ q ≤ 1073741824 by omega)]
    simp only [Bool.true_and, Bool.false_and]
    clear hc h1 h2 h3
    go_enter Tryd.func82, Tryd.ntmps82
    go_wp2
    go_ret
    exact ⟨rfl, GR.out⟩
  rw [decide_eq_true (show q ≤ 1073741824 by omega)]
  have t4 : decide (1073741824 < q) = false := decide_eq_false h4
  by_cases h5 : l.length = 0
  · rw [decide_eq_false (show ¬ 1 ≤ l.length by omega)]
    simp only [Bool.true_and, Bool.false_and]
    have t5 : ((l.length : Int) == 0) = true := by simpa using h5
    clear hc h1 h2 h3 h4 h5
    go_enter Tryd.func82, Tryd.ntmps82
    go_wp2
    go_ret
    exact ⟨rfl, GR.out⟩
  rw [decide_eq_true (show 1 ≤ l.length by omega)]
  have t5 : ((l.length : Int) == 0) = false := by simpa using h5
  by_cases h6 : 4 < l.length
  · rw [decide_eq_false (show ¬ l.length ≤ 4 by omega)]
    simp only [Bool.true_and, Bool.false_and]
    have t6 : decide (4 < (l.length : Int)) = true := decide_eq_true (by omega)
    clear hc h1 h2 h3 h4 h5 h6
    go_enter Tryd.func82, Tryd.ntmps82
    go_wp2
    go_ret
    exact ⟨rfl, GR.out⟩
  rw [decide_eq_true (show l.length ≤ 4 by omega)]
  simp only [Bool.true_and]
  have t6 : decide (4 < (l.length : Int)) = false := decide_eq_false (by omega)
  have HC := Lib.hid hc
  clear hc h1 h2 h3 h4 h5 h6
  cases hm : Bt.mayT l with
  | true =>
    rw [hm] at HC
    clear hm
    go_enter Tryd.func82, Tryd.ntmps82
    go_wp2_with fail
    refine (HC.out _ (HV.out.below GR.out)).mono ?_
    rintro e w1 ⟨rfl, hb⟩
    have hb2 := grow_trans GR.out hb
    go_wp2
    go_ret
    exact ⟨rfl, hb2⟩
  | false =>
    rw [hm] at HC
    clear hm
    go_enter Tryd.func82, Tryd.ntmps82
    go_wp2_with fail
    refine (HC.out _ (HV.out.below GR.out)).mono ?_
    rintro e w1 ⟨rfl, hb⟩
    have hb2 := grow_trans GR.out hb
    go_wp2
    go_ret
    exact ⟨rfl, hb2⟩
end Go.Proofs.YtflmfbcjmjlkbaaDoor
