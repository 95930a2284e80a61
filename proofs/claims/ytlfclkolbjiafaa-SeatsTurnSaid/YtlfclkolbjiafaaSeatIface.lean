/- What the statements' walks want of package seats: each call's answer, where the plain function's value is known. -/
import Derived.Test.YtlfclkolbjiafaaSeatProg
namespace Go.Proofs.Ytlfclkolbjiafaa
open Go.RowKit

theorem s_may {n : Int} {b : Bool} (h : Se.may n = b) (h1 : -9223372036854775808 ≤ n) (h2 : n ≤ 9223372036854775807) (w : World) :
    Calls Try.prog 12 #[.int .i64 n] w fun e w' => e = .returned (.bool b) ∧ Below w.heap.size w w' := by
  subst h; exact (pmay_any n h1 h2 w).mono fun e w' ⟨he, hw⟩ => ⟨he, by rw [← hw]; exact Below.refl _ _⟩
theorem s_faults {n m : Int} (h : Se.faults n = m) (h1 : -9223372036854775808 ≤ n) (h2 : n ≤ 9223372036854775807) (w : World) :
    Calls Try.prog 14 #[.int .i64 n] w fun e w' => e = .returned (.int .i64 m) ∧ Below w.heap.size w w' := by
  subst h; exact (pfaults_any n h1 h2 w).mono fun e w' ⟨he, hw⟩ => ⟨he, by rw [← hw]; exact Below.refl _ _⟩
theorem s_quorum {n m : Int} (h : Se.quorum n = m) (h1 : -9223372036854775808 ≤ n) (h2 : n ≤ 9223372036854775807) (w : World) :
    Calls Try.prog 16 #[.int .i64 n] w fun e w' => e = .returned (.int .i64 m) ∧ Below w.heap.size w w' := by
  subst h; exact (pquorum_any n h1 h2 w).mono fun e w' ⟨he, hw⟩ => ⟨he, by rw [← hw]; exact Below.refl _ _⟩
theorem s_weak {n m : Int} (h : Se.weak n = m) (h1 : -9223372036854775808 ≤ n) (h2 : n ≤ 9223372036854775807) (w : World) :
    Calls Try.prog 18 #[.int .i64 n] w fun e w' => e = .returned (.int .i64 m) ∧ Below w.heap.size w w' := by
  subst h; exact (pweak_any n h1 h2 w).mono fun e w' ⟨he, hw⟩ => ⟨he, by rw [← hw]; exact Below.refl _ _⟩
theorem s_put {v : Nat} {id : Int} {a x : Nat} (h : Se.putR v id = (a, x)) (hv : v < 18446744073709551616) (_h1 : -9223372036854775808 ≤ id) (_h2 : id ≤ 9223372036854775807) (w : World) :
    Calls Try.prog 20 #[.int .u64 v, .int .i64 id] w fun e w' => e = .returned (.tuple #[.int .u64 a, .int .i64 x]) ∧ Below w.heap.size w w' :=
  (pput_any v id hv w).mono fun e w' hh => by rw [h] at hh; exact ⟨hh.1, by rw [hh.2]; exact Below.refl _ _⟩
theorem s_has {v : Nat} {id : Int} {b : Bool} (h : Se.has v id = b) (hv : v < 18446744073709551616) (_h1 : -9223372036854775808 ≤ id) (_h2 : id ≤ 9223372036854775807) (w : World) :
    Calls Try.prog 27 #[.int .u64 v, .int .i64 id] w fun e w' => e = .returned (.bool b) ∧ Below w.heap.size w w' := by
  subst h; exact (phas_any v id hv w).mono fun e w' hh => ⟨hh.1, by rw [hh.2]; exact Below.refl _ _⟩
theorem s_count {v n : Nat} (h : Se.count v = n) (hv : v < 18446744073709551616) (w : World) :
    Calls Try.prog 29 #[.int .u64 v] w fun e w' => e = .returned (.int .i64 n) ∧ Below w.heap.size w w' := by subst h; exact pcount_any v hv w
theorem s_list {v : Nat} {l : List Nat} (h : Se.list v = l) (hv : v < 18446744073709551616) (w : World) :
    Calls Try.prog 25 #[.int .u64 v] w fun e w' => ∃ s, e = .returned s ∧ FlatAt w' s 1 (ids l) ∧ Below w.heap.size w w' := by subst h; exact plist_any v hv w
theorem s_of {s : Value} {l : List Int} {a x : Nat} (h : Se.of l = (a, x)) (w : World) (hs : FlatAt w s 1 (ints l)) (hl : l.length ≤ 9223372036854775807) :
    Calls Try.prog 22 #[s] w fun e w' => e = .returned (.tuple #[.int .u64 a, .int .i64 x]) ∧ Below w.heap.size w w' :=
  (pof_any s l w hs hl).mono fun e w' hh => by rw [h] at hh; exact ⟨hh.1, by rw [hh.2]; exact Below.refl _ _⟩
theorem s_within {v : Nat} {n : Int} {b : Bool} (h : Se.within v n = b) (hv : v < 18446744073709551616) (_h1 : -9223372036854775808 ≤ n) (_h2 : n ≤ 9223372036854775807) (w : World) :
    Calls Try.prog 31 #[.int .u64 v, .int .i64 n] w fun e w' => e = .returned (.bool b) ∧ Below w.heap.size w w' := by
  subst h; exact (pwithin_any v n hv w).mono fun e w' hh => ⟨hh.1, by rw [hh.2]; exact Below.refl _ _⟩

theorem r_may {n : Int} {m : Bool} (h : Se.may n = m) (h1 : -9223372036854775808 ≤ n) (h2 : n ≤ 9223372036854775807) (w : World) :
    Calls Try.prog 13 #[.int .i64 n] w fun e w' => e = .returned (.bool m) ∧ Below w.heap.size w w' := by
  subst h; exact (rmay_any n h1 h2 w).mono fun e w' ⟨he, hw⟩ => ⟨he, by rw [← hw]; exact Below.refl _ _⟩
theorem r_faults {n : Int} {m : Int} (h : Se.faults n = m) (h1 : -9223372036854775808 ≤ n) (h2 : n ≤ 9223372036854775807) (w : World) :
    Calls Try.prog 15 #[.int .i64 n] w fun e w' => e = .returned (.int .i64 m) ∧ Below w.heap.size w w' := by
  subst h; exact (rfaults_any n h1 h2 w).mono fun e w' ⟨he, hw⟩ => ⟨he, by rw [← hw]; exact Below.refl _ _⟩
theorem r_quorum {n : Int} {m : Int} (h : Se.quorum n = m) (h1 : -9223372036854775808 ≤ n) (h2 : n ≤ 9223372036854775807) (w : World) :
    Calls Try.prog 17 #[.int .i64 n] w fun e w' => e = .returned (.int .i64 m) ∧ Below w.heap.size w w' := by
  subst h; exact (rquorum_any n h1 h2 w).mono fun e w' ⟨he, hw⟩ => ⟨he, by rw [← hw]; exact Below.refl _ _⟩
theorem r_weak {n : Int} {m : Int} (h : Se.weak n = m) (h1 : -9223372036854775808 ≤ n) (h2 : n ≤ 9223372036854775807) (w : World) :
    Calls Try.prog 19 #[.int .i64 n] w fun e w' => e = .returned (.int .i64 m) ∧ Below w.heap.size w w' := by
  subst h; exact (rweak_any n h1 h2 w).mono fun e w' ⟨he, hw⟩ => ⟨he, by rw [← hw]; exact Below.refl _ _⟩
theorem r_put {v : Nat} {id : Int} {a x : Nat} (h : Se.putR v id = (a, x)) (hv : v < 18446744073709551616) (w : World) :
    Calls Try.prog 21 #[.int .u64 v, .int .i64 id] w fun e w' => e = .returned (.tuple #[.int .u64 a, .int .i64 x]) ∧ Below w.heap.size w w' :=
  (rput_any v id hv w).mono fun e w' hh => by rw [h] at hh; exact hh
theorem r_count {v n : Nat} (h : Se.count v = n) (hv : v < 18446744073709551616) (w : World) :
    Calls Try.prog 30 #[.int .u64 v] w fun e w' => e = .returned (.int .i64 n) ∧ Below w.heap.size w w' := by subst h; exact rcount_any v hv w
theorem r_list {v : Nat} {l : List Nat} (h : Se.list v = l) (hv : v < 18446744073709551616) (w : World) :
    Calls Try.prog 26 #[.int .u64 v] w fun e w' => ∃ s, e = .returned s ∧ FlatAt w' s 1 (ids l) ∧ Below w.heap.size w w' := by subst h; exact rlist_any v hv w
theorem r_of {s : Value} {l : List Int} {a x : Nat} (h : Se.of l = (a, x)) (w : World) (hs : FlatAt w s 1 (ints l)) (hl : l.length ≤ 9223372036854775807) :
    Calls Try.prog 23 #[s] w fun e w' => e = .returned (.tuple #[.int .u64 a, .int .i64 x]) ∧ Below w.heap.size w w' :=
  (rof_any s l w hs hl).mono fun e w' hh => by rw [h] at hh; exact hh
theorem r_within {v : Nat} {n : Int} {b : Bool} (h : Se.within v n = b) (hv : v < 18446744073709551616) (h1 : -9223372036854775808 ≤ n) (h2 : n ≤ 9223372036854775807) (w : World) :
    Calls Try.prog 32 #[.int .u64 v, .int .i64 n] w fun e w' => e = .returned (.bool b) ∧ Below w.heap.size w w' := by subst h; exact rwithin_any v n hv h1 h2 w
theorem r_has {v : Nat} {id : Int} {b : Bool} (h : Se.has v id = b) (hv : v < 18446744073709551616) (w : World) :
    Calls Try.prog 28 #[.int .u64 v, .int .i64 id] w fun e w' => e = .returned (.bool b) ∧ Below w.heap.size w w' := by subst h; exact rhas_any v id hv w

theorem seat_ex1 : Se.faults 4 = 1 := by decide
theorem seat_ex2 : Se.quorum 4 = 3 := by decide
theorem seat_ex3 : Se.weak 4 = 2 := by decide
theorem seat_ex4 : Se.of [1, 3] = (5, 0) := by decide
theorem seat_ex5 : Se.list 5 = [1, 3] := by decide

set_option maxHeartbeats 1000000 in
theorem seatShown_any (w : World) : Calls Try.prog 11 #[] w fun e w' => e = .returned (.bool true) ∧ Below w.heap.size w w' := by
  go_enter Try.func11, Try.ntmps11
  go_wp2_with fail
  refine (s_of seat_ex4 _ (.inr ⟨w.heap.size, 0, 2, 2, rfl, rfl, ?_⟩) (by decide)).mono ?_
  · intro i hi
    match i, hi with
    | 0, _ => simp [ints, iv]
    | 1, _ => simp [ints, iv]
  rintro e w1 ⟨rfl, h1⟩
  have g1 : Below w.heap.size w w1 := ((Below.refl _ _).alloc (Nat.le_refl _) _).trans (h1.mono (by simp))
  clear h1
  go_wp2_with fail
  refine (s_list seat_ex5 (by decide) _).mono ?_
  rintro e w2 ⟨s, rfl, hs, h2⟩
  have g2 := grow_trans g1 h2
  obtain ⟨b, off, cap, rfl, hc⟩ := hs.at (n := 2) rfl (by omega) (by omega)
  have c0 := hc 0 (by decide)
  have c1 := hc 1 (by decide)
  have C0 := Lib.hid c0
  have C1 := Lib.hid c1
  clear hc hs c0 c1
  go_wp2_with fail
  refine (s_faults seat_ex1 (by decide) (by decide) _).mono ?_
  rintro e w3 ⟨rfl, h3⟩
  have g3 := grow_trans g2 h3
  go_wp2_with fail
  refine (s_quorum seat_ex2 (by decide) (by decide) _).mono ?_
  rintro e w4 ⟨rfl, h4⟩
  have g4 := grow_trans g3 h4
  go_wp2_with fail
  refine (s_weak seat_ex3 (by decide) (by decide) _).mono ?_
  rintro e w5 ⟨rfl, h5⟩
  have g5 := grow_trans g4 h5
  have d0 := below_cell h5 (below_cell h4 (below_cell h3 C0.out))
  have d1 := below_cell h5 (below_cell h4 (below_cell h3 C1.out))
  simp [ids, iv] at d0 d1
  go_wp2_with fail
  go_ret
  exact ⟨rfl, g5⟩
end Go.Proofs.Ytlfclkolbjiafaa
