/- The contracts of the document's answers of layer 3: norms, numbers as elements, powers, inverses. -/
import Derived.Test.YtngmkokmomficaaGaussRefS
namespace Go.Proofs.Ytngmkokmomficaa
open Go.RowKit

attribute [local go_sem] build_el build_el0 build_el1 eq_el guard_el

theorem rnorm_eq {x : Ga.E} {z : Int} (hz : Ga.norm x = z) (w : World) :
    Calls Try.prog 35 #[elv x] w fun e w' => e = .returned (.int .i64 z) ∧ Below w.heap.size w w' := by
  subst hz
  cases h : Ga.ok x with
  | false =>
    have hm := fun W => rmay_ok h W
    have e : Ga.norm x = 0 := by simp [Ga.norm, h]
    rw [e]
    clear h e
    go_enter Try.func35, Try.ntmps35
    go_wp2_with fail
    refine (hm _).mono ?_
    rintro e w1 ⟨rfl, rfl⟩
    go_wp2
    go_ret
    refine ⟨rfl, ?_⟩
    refine Below.alloc (Below.alloc (Below.refl _ _) ?_ _) ?_ _ <;> (first | exact Nat.le_refl _ | (simp only [World.size_alloc]; omega))
  | true =>
    have hm := fun W => rmay_ok h W
    obtain ⟨a, b⟩ := x
    have e : Ga.norm (a, b) = (a * a + b * b) % 10007 := by simp [Ga.norm, h]
    rw [e]
    obtain ⟨a1, a2, b1, b2⟩ := valid_ok h
    have p1 := prod_bound a1 a2 a1 a2
    have p2 := prod_bound b1 b2 b1 b2
    clear e h
    go_enter Try.func35, Try.ntmps35
    go_wp2_with fail
    refine (hm _).mono ?_
    rintro e w1 ⟨rfl, rfl⟩
    go_wp2
    go_ret
    refine ⟨rfl, ?_⟩
    refine Below.alloc (Below.alloc (Below.refl _ _) ?_ _) ?_ _ <;> (first | exact Nat.le_refl _ | (simp only [World.size_alloc]; omega))

theorem wholeL_stop (f : Nat) (o v : Int) (n : Nat) (h : n = 0) : Ga.wholeL f o v n = o := by
  subst h
  cases f with
  | zero => rfl
  | succ f => rw [Ga.wholeL, if_pos rfl]
theorem wholeL_odd (f : Nat) (o v : Int) (n : Nat) (h0 : n < 2 ^ f) (h : n % 2 = 1) : ∃ g, n / 2 < 2 ^ g ∧ Ga.wholeL f o v n = Ga.wholeL g (o * v % 10007) (v * v % 10007) (n / 2) := by
  cases f with
  | zero => simp at h0; omega
  | succ f => exact ⟨f, by rw [Nat.pow_succ] at h0; omega, by rw [Ga.wholeL, if_neg (by omega), if_pos h]⟩
theorem wholeL_even (f : Nat) (o v : Int) (n : Nat) (h0 : n < 2 ^ f) (hn : n ≠ 0) (h : ¬ n % 2 = 1) : ∃ g, n / 2 < 2 ^ g ∧ Ga.wholeL f o v n = Ga.wholeL g o (v * v % 10007) (n / 2) := by
  cases f with
  | zero => simp at h0; omega
  | succ f => exact ⟨f, by rw [Nat.pow_succ] at h0; omega, by rw [Ga.wholeL, if_neg hn, if_neg h]⟩

set_option maxHeartbeats 1000000 in
theorem rwhole_eq {v r : Int} (hr : Ga.whole v = r) (v1 : 0 ≤ v) (v2 : v < 10007) (w : World) :
    Calls Try.prog 34 #[.int .i64 v] w fun e w' => e = .returned (.int .i64 r) ∧ w' = w := by
  have HR := Lib.hid hr
  clear hr
  go_enter Try.func34, Try.ntmps34
  go_wp2_with fail
  go_loop [0, 3, 4] (fun x o n => ∃ (v o' : Int) (m : Nat), x = .int .i64 v ∧ o = .int .i64 o' ∧ n = .int .i64 m ∧ 0 ≤ v ∧ v < 10007 ∧ 0 ≤ o' ∧ o' < 10007 ∧ m ≤ 10005 ∧ ∃ f, m < 2 ^ f ∧ Ga.wholeL f o' v m = r) (fun _ _ n => (intOf n).toNat)
  case atStart => exact ⟨v, 1, 10005, rfl, rfl, rfl, v1, v2, by omega, by omega, by omega, 64, by decide, HR.out⟩
  case round =>
    clear HR v1 v2
    obtain ⟨v, o, m, rfl, rfl, rfl, v1, v2, o1, o2, hm, f, hf, hp⟩ := hrel
    by_cases h0 : m = 0
    · subst h0
      have hres : o = r := by rw [← hp]; exact (wholeL_stop _ _ _ _ rfl).symm
      subst hres
      clear hp hf
      go_wp2
      go_ret
      exact ⟨rfl, rfl⟩
    · have t0 : decide ((0 : Int) < (m : Int)) = true := by simp; omega
      have p1 := prod_bound v1 v2 v1 v2
      by_cases hodd : m % 2 = 1
      · have t1 : ((m : Int) % 2 == 1) = true := by rw [beq_iff_eq]; omega
        obtain ⟨g, hg, hgr⟩ := wholeL_odd f o v m hf hodd
        rw [hgr] at hp
        have HP := Lib.hid hp
        have HG := Lib.hid hg
        have p2 := prod_bound o1 o2 v1 v2
        have hhalf : m / 2 < m := by omega
        clear hp hg hgr hf hodd h0
        go_wp2
        go_round
        case rel => exact ⟨v * v % 10007, o * v % 10007, m / 2, by go_num, by go_num, by go_num, by omega, by omega, by omega, by omega, by omega, g, HG.out, HP.out⟩
        case measure => simp [intOf]; omega
      · have t1 : ((m : Int) % 2 == 1) = false := by rw [beq_eq_false_iff_ne]; omega
        obtain ⟨g, hg, hgr⟩ := wholeL_even f o v m hf h0 hodd
        rw [hgr] at hp
        have HP := Lib.hid hp
        have HG := Lib.hid hg
        have hhalf : m / 2 < m := by omega
        clear hp hg hgr hf hodd h0
        go_wp2
        go_round
        case rel => exact ⟨v * v % 10007, o, m / 2, by go_num, rfl, by go_num, by omega, by omega, o1, o2, by omega, g, HG.out, HP.out⟩
        case measure => simp [intOf]; omega
end Go.Proofs.Ytngmkokmomficaa
