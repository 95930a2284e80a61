/- The document's May for batches. -/
import Derived.Test.YtflmfbcjmjlkbaaDoorBatGo
namespace Go.Proofs.YtflmfbcjmjlkbaaDoor
open Go.RowKit

set_option maxHeartbeats 4000000 in
theorem rbmay (o q : Int) (v : Value) (l : List (List UInt8)) (w : World) (hv : TxAt w v l) :
    Calls Tryd.prog 86 #[batV o q v] w fun e w' => e = .returned (.bool (Bt.may (o, q, l))) ∧ Below w.heap.size w w' := by
  rw [Bt.may_eq]
  have hg : Below w.heap.size w (w.alloc (.cells #[.int .i64 o, .int .i64 q, v] 68)) := (Below.refl _ _).alloc (Nat.le_refl _) _
  rcases hv with ⟨aa, cap, rfl, rfl⟩ | ⟨b, off, cap, rfl, hc⟩
  · have GR := Lib.hid hg
    clear hg
    by_cases h0 : o < 1
    · rw [decide_eq_false (show ¬ 1 ≤ o by omega)]
      simp only [Bool.false_and]
      have t0 : decide (o < 1) = true := decide_eq_true h0
      clear h0
      go_enter Tryd.func86, Tryd.ntmps86
      go_wp2
      go_ret
      exact ⟨rfl, GR.out⟩
    rw [decide_eq_true (show 1 ≤ o by omega)]
    have t0 : decide (o < 1) = false := decide_eq_false h0
    by_cases h1 : 64 < o
    · rw [decide_eq_false (show ¬ o ≤ 64 by omega)]
      simp only [Bool.true_and, Bool.false_and]
      have t1 : decide (64 < o) = true := decide_eq_true h1
      clear h0 h1
      go_enter Tryd.func86, Tryd.ntmps86
      go_wp2
      go_ret
      exact ⟨rfl, GR.out⟩
    rw [decide_eq_true (show o ≤ 64 by omega)]
    have t1 : decide (64 < o) = false := decide_eq_false h1
    by_cases h2 : q < 1
    · rw [decide_eq_false (show ¬ 1 ≤ q by omega)]
      simp only [Bool.true_and, Bool.false_and]
      have t2 : decide (q < 1) = true := decide_eq_true h2
      clear h0 h1 h2
      go_enter Tryd.func86, Tryd.ntmps86
      go_wp2
      go_ret
      exact ⟨rfl, GR.out⟩
    rw [decide_eq_true (show 1 ≤ q by omega)]
    have t2 : decide (q < 1) = false := decide_eq_false h2
    by_cases h3 : 1073741824 < q
    · rw [decide_eq_false (show ¬ q ≤ 1073741824 by omega)]
      simp only [Bool.true_and, Bool.false_and]
      have t3 : decide (1073741824 < q) = true := decide_eq_true h3
      clear h0 h1 h2 h3
      go_enter Tryd.func86, Tryd.ntmps86
      go_wp2
      go_ret
      exact ⟨rfl, GR.out⟩
    rw [decide_eq_true (show q ≤ 1073741824 by omega)]
    have t3 : decide (1073741824 < q) = false := decide_eq_false h3
    clear h0 h1 h2 h3
    go_enter Tryd.func86, Tryd.ntmps86
    go_wp2
    go_ret
    exact ⟨rfl, GR.out⟩
  · have GR := Lib.hid hg
    have HC := Lib.hid hc
    clear hg hc
    by_cases h0 : o < 1
    · rw [decide_eq_false (show ¬ 1 ≤ o by omega)]
      simp only [Bool.false_and]
      have t0 : decide (o < 1) = true := decide_eq_true h0
      clear h0
      go_enter Tryd.func86, Tryd.ntmps86
      go_wp2
      go_ret
      exact ⟨rfl, GR.out⟩
    rw [decide_eq_true (show 1 ≤ o by omega)]
    have t0 : decide (o < 1) = false := decide_eq_false h0
    by_cases h1 : 64 < o
    · rw [decide_eq_false (show ¬ o ≤ 64 by omega)]
      simp only [Bool.true_and, Bool.false_and]
      have t1 : decide (64 < o) = true := decide_eq_true h1
      clear h0 h1
      go_enter Tryd.func86, Tryd.ntmps86
      go_wp2
      go_ret
      exact ⟨rfl, GR.out⟩
    rw [decide_eq_true (show o ≤ 64 by omega)]
    have t1 : decide (64 < o) = false := decide_eq_false h1
    by_cases h2 : q < 1
    · rw [decide_eq_false (show ¬ 1 ≤ q by omega)]
      simp only [Bool.true_and, Bool.false_and]
      have t2 : decide (q < 1) = true := decide_eq_true h2
      clear h0 h1 h2
      go_enter Tryd.func86, Tryd.ntmps86
      go_wp2
      go_ret
      exact ⟨rfl, GR.out⟩
    rw [decide_eq_true (show 1 ≤ q by omega)]
    have t2 : decide (q < 1) = false := decide_eq_false h2
    by_cases h3 : 1073741824 < q
    · rw [decide_eq_false (show ¬ q ≤ 1073741824 by omega)]
      simp only [Bool.true_and, Bool.false_and]
      have t3 : decide (1073741824 < q) = true := decide_eq_true h3
      clear h0 h1 h2 h3
      go_enter Tryd.func86, Tryd.ntmps86
      go_wp2
      go_ret
      exact ⟨rfl, GR.out⟩
    rw [decide_eq_true (show q ≤ 1073741824 by omega)]
    have t3 : decide (1073741824 < q) = false := decide_eq_false h3
    by_cases h4 : l.length < 1
    · rw [decide_eq_false (show ¬ 1 ≤ l.length by omega)]
      simp only [Bool.true_and, Bool.false_and]
      have t4 : decide ((l.length : Int) < 1) = true := decide_eq_true (by omega)
      clear h0 h1 h2 h3 h4
      go_enter Tryd.func86, Tryd.ntmps86
      go_wp2
      go_ret
      exact ⟨rfl, GR.out⟩
    rw [decide_eq_true (show 1 ≤ l.length by omega)]
    have t4 : decide ((l.length : Int) < 1) = false := decide_eq_false (by omega)
    by_cases h5 : 4 < l.length
    · rw [decide_eq_false (show ¬ l.length ≤ 4 by omega)]
      simp only [Bool.true_and, Bool.false_and]
      have t5 : decide (4 < (l.length : Int)) = true := decide_eq_true (by omega)
      clear h0 h1 h2 h3 h4 h5
      go_enter Tryd.func86, Tryd.ntmps86
      go_wp2
      go_ret
      exact ⟨rfl, GR.out⟩
    rw [decide_eq_true (show l.length ≤ 4 by omega)]
    have t5 : decide (4 < (l.length : Int)) = false := decide_eq_false (by omega)
    simp only [Bool.true_and]
    clear h0 h1 h2 h3 h4
    go_enter Tryd.func86, Tryd.ntmps86
    go_wp2_with fail
    go_loopw [3] (fun i wr => ∃ k : Nat, i = .int .i64 k ∧ k ≤ l.length ∧ (∀ j (hj : j < l.length), j < k → Bt.wrong l[j] = false) ∧ wr = w.alloc (.cells #[.int .i64 o, .int .i64 q, .slice (some ⟨b, off, none⟩) l.length cap] 68)) (fun i _ => l.length - (intOf i).toNat)
    case atStart => exact ⟨0, rfl, by omega, fun _ _ h => absurd h (by omega), rfl⟩
    case round =>
      obtain ⟨k, rfl, hk, hn, rfl⟩ := hrel
      have HN := Lib.hid hn
      clear hn
      by_cases hlt : k < l.length
      · have c1 := below_cell GR.out (HC.out k hlt)
        have hstep : Bt.wrong l[k] = false → ∀ j (hj : j < l.length), j < k + 1 → Bt.wrong l[j] = false := by
          intro he j hj hjk
          by_cases e : j = k
          · subst e; exact he
          · exact HN.out j hj (by omega)
        have hfound : Bt.wrong l[k] = true → Bt.mayT l = false := fun he => Bt.mayT_hit l k hlt he
        have HS := Lib.hid hstep
        have HF := Lib.hid hfound
        clear hstep hfound
        obtain ⟨y, hy⟩ : ∃ y, l[k] = y := ⟨_, rfl⟩
        rw [hy] at c1 HS HF
        clear hy
        by_cases y1 : y.length < 1
        · have hw : Bt.wrong y = true := by
            cases e : Bt.wrong y with
            | true => rfl
            | false => have := (Bt.wrong_may y).1 e; omega
          have HF2 := Lib.hid (HF.out hw)
          have u1 : decide ((y.length : Int) < 1) = true := decide_eq_true (by omega)
          clear hw y1
          go_wp2
          go_ret
          exact ⟨by rw [HF2.out]; rfl, GR.out⟩
        have u1 : decide ((y.length : Int) < 1) = false := decide_eq_false (by omega)
        by_cases y2 : 48 < y.length
        · have hw : Bt.wrong y = true := by
            cases e : Bt.wrong y with
            | true => rfl
            | false => have := (Bt.wrong_may y).1 e; omega
          have HF2 := Lib.hid (HF.out hw)
          have u2 : decide (48 < (y.length : Int)) = true := decide_eq_true (by omega)
          clear hw y1 y2
          go_wp2
          go_ret
          exact ⟨by rw [HF2.out]; rfl, GR.out⟩
        have u2 : decide (48 < (y.length : Int)) = false := decide_eq_false (by omega)
        have HS2 := Lib.hid (HS.out ((Bt.wrong_may y).2 (by omega)))
        clear y1 y2
        go_wp2
        go_roundw
        case rel => exact ⟨k + 1, by go_num, hlt, HS2.out, trivial⟩
        case measure => simp [intOf]; omega
      · obtain rfl : k = l.length := by omega
        have HF := Lib.hid (Bt.mayT_all l fun j hj => HN.out j hj hj)
        go_wp2
        go_ret
        exact ⟨by rw [HF.out]; rfl, GR.out⟩
end Go.Proofs.YtflmfbcjmjlkbaaDoor
