/- DigitsOrder: the walk. -/
import Derived.Test.YtedgcebcdcinhaaDigShown
import Derived.Test.YtedgcebcdcinhaaDigLess
import Derived.Test.YtedgcebcdcinhaaOpen
namespace Go.Proofs.Ytedgcebcdcinhaa
open Go.RowKit Go.ChangeShapes Go.WideShapes Go.ChangeAt

theorem num_eq {n : Nat} {l : List UInt8} (h : Dg.num n = l) (hn : n < 18446744073709551616) (w : World) :
    Calls Try.prog 13 #[.int .u64 n] w fun e w' => e = .returned (tx l) ∧ Below w.heap.size w w' := by
  subst h
  exact num_any n hn w

theorem less_eq {a b : List UInt8} {x : Bool} (h : Dg.less a b = x) (ha : a.length ≤ 9) (hb : b.length ≤ 9) (w : World) :
    Calls Try.prog 26 #[tx a, tx b] w fun e w' => e = .returned (.bool x) ∧ ∃ n, w' = w.drewN n := by
  subst h
  exact less_any a b (by omega) (by omega) w

set_option maxHeartbeats 1000000 in
theorem digitsOrder_core (v u : Nat) (hv : v < 18446744073709551616) (hu : u < 18446744073709551616) (W : World) :
    Calls Try.prog 9 #[.int .u64 v, .int .u64 u] W fun e W' => e = .returned (.bool true) ∧ Below W.heap.size W W' := by
  obtain ⟨a, ha⟩ : ∃ a, Dg.num v = a := ⟨_, rfl⟩
  obtain ⟨b, hb⟩ : ∃ b, Dg.num u = b := ⟨_, rfl⟩
  have la : a.length ≤ 9 := by rw [← ha]; exact Dg.num_len v
  have lb : b.length ≤ 9 := by rw [← hb]; exact Dg.num_len u
  have hl : Dg.less a b = decide (v < u) := by rw [← ha, ← hb]; exact Dg.less_num v u hv hu
  have he : a = b ↔ v = u := ⟨fun e => Dg.num_inj v u hv hu (by rw [ha, hb, e]), fun e => by rw [← ha, ← hb, e]⟩
  have HA := Lib.hid ha
  have HB := Lib.hid hb
  clear ha hb
  by_cases hlt : v < u
  · have hl1 : Dg.less a b = true := by rw [hl]; simp [hlt]
    have hne : (a == b) = false := by rw [beq_eq_false_iff_ne]; intro e; have := he.1 e; omega
    have hne2 : ((v : Int) == (u : Int)) = false := by rw [beq_eq_false_iff_ne]; omega
    have HL := Lib.hid hl1
    clear hl hl1 he
    go_enter Try.func9, Try.ntmps9
    go_wp2_with fail
    refine (shown_any _).mono ?_
    rintro e w1 ⟨rfl, h1⟩
    go_wp2_with fail
    refine (num_eq HA.out hv _).mono ?_
    rintro e w2 ⟨rfl, h2⟩
    go_wp2_with fail
    refine (num_eq HB.out hu _).mono ?_
    rintro e w3 ⟨rfl, h3⟩
    go_wp2_with fail
    refine (less_eq HL.out la lb _).mono ?_
    rintro e w4 ⟨rfl, k, rfl⟩
    go_wp2_with fail
    refine (num_eq HA.out hv _).mono ?_
    rintro e w5 ⟨rfl, h5⟩
    go_wp2_with fail
    refine (num_eq HB.out hu _).mono ?_
    rintro e w6 ⟨rfl, h6⟩
    go_wp2_with fail
    go_ret
    exact ⟨rfl, grow_trans (grow_trans (grow_trans (grow_trans (grow_trans h1 h2) h3) (grow_draws _ k)) h5) h6⟩
  · have hl1 : Dg.less a b = false := by rw [hl]; simp; omega
    by_cases heq : v = u
    · subst heq
      obtain rfl : a = b := he.2 rfl
      have HL := Lib.hid hl1
      clear hl hl1 he
      go_enter Try.func9, Try.ntmps9
      go_wp2_with fail
      refine (shown_any _).mono ?_
      rintro e w1 ⟨rfl, h1⟩
      go_wp2_with fail
      refine (num_eq HA.out hv _).mono ?_
      rintro e w2 ⟨rfl, h2⟩
      go_wp2_with fail
      refine (num_eq HB.out hu _).mono ?_
      rintro e w3 ⟨rfl, h3⟩
      go_wp2_with fail
      refine (less_eq HL.out la lb _).mono ?_
      rintro e w4 ⟨rfl, k, rfl⟩
      go_wp2_with fail
      refine (num_eq HA.out hv _).mono ?_
      rintro e w5 ⟨rfl, h5⟩
      go_wp2_with fail
      refine (num_eq HB.out hu _).mono ?_
      rintro e w6 ⟨rfl, h6⟩
      go_wp2_with fail
      go_ret
      exact ⟨rfl, grow_trans (grow_trans (grow_trans (grow_trans (grow_trans h1 h2) h3) (grow_draws _ k)) h5) h6⟩
    · have hne : (a == b) = false := by rw [beq_eq_false_iff_ne]; intro e; exact heq (he.1 e)
      have hne2 : ((v : Int) == (u : Int)) = false := by rw [beq_eq_false_iff_ne]; omega
      have HL := Lib.hid hl1
      clear hl hl1 he heq
      go_enter Try.func9, Try.ntmps9
      go_wp2_with fail
      refine (shown_any _).mono ?_
      rintro e w1 ⟨rfl, h1⟩
      go_wp2_with fail
      refine (num_eq HA.out hv _).mono ?_
      rintro e w2 ⟨rfl, h2⟩
      go_wp2_with fail
      refine (num_eq HB.out hu _).mono ?_
      rintro e w3 ⟨rfl, h3⟩
      go_wp2_with fail
      refine (less_eq HL.out la lb _).mono ?_
      rintro e w4 ⟨rfl, k, rfl⟩
      go_wp2_with fail
      refine (num_eq HA.out hv _).mono ?_
      rintro e w5 ⟨rfl, h5⟩
      go_wp2_with fail
      refine (num_eq HB.out hu _).mono ?_
      rintro e w6 ⟨rfl, h6⟩
      go_wp2_with fail
      go_ret
      exact ⟨rfl, grow_trans (grow_trans (grow_trans (grow_trans (grow_trans h1 h2) h3) (grow_draws _ k)) h5) h6⟩

theorem digitsOrder_walk {H : Type} (enc : TypeId × Value → H) (W : World) (base : Nat) (v0 v1 : Value) (d0 d1 : DataW H) (p0 p1 : List MemPlace)
    (h0 : DataW.Trod enc Try.prog W 0 (fun _ => true) true 22 v0 d0 p0) (o0 : Value.okWide Try.prog W .any base 22 v0)
    (h1 : DataW.Trod enc Try.prog W 0 (fun _ => true) true 22 v1 d1 p1) (o1 : Value.okWide Try.prog W .any base 22 v1)
    (_hsz : (DataW.weightsEach Try.prog [22, 22] [d0, d1]).all (· ≤ reachBytes) = true) :
    Calls Try.prog 9 #[v0, v1] W fun e W' => e = .returned (.bool true) ∧ Below W.heap.size W W' := by
  obtain ⟨n, hn, rfl, rfl, rfl⟩ := open_u64 Try.underlying22 o0 h0
  obtain ⟨m, hm, rfl, rfl, rfl⟩ := open_u64 Try.underlying22 o1 h1
  exact digitsOrder_core n m hn hm W
end Go.Proofs.Ytedgcebcdcinhaa
