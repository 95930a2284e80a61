/- Package book as it landed: By, All. -/
import Derived.Test.YtpodccgaigkalaaBkGo
import Derived.Test.YtpodccgaigkalaaSeatRef2
import Derived.Laws.BitsAll
namespace Bk
/-- One seal more, for its text. -/
def step (t : List UInt8) (o : Nat) (s : Sl) : Nat := if s.2 = t then (if inR s then o ||| 2 ^ (s.1.toNat - 1) else o) else o
def fold (l : List Sl) (t : List UInt8) : Nat := l.foldl (step t) 0
theorem step_bit (t : List UInt8) (o : Nat) (s : Sl) (i : Nat) : (step t o s).testBit i = (o.testBit i || decide (i < 64 ∧ s = ((i : Int) + 1, t))) := by
  rw [step]
  by_cases h1 : s.2 = t
  · rw [if_pos h1]
    by_cases h2 : inR s = true
    · rw [if_pos h2, Nat.testBit_or, Nat.testBit_two_pow]
      simp only [inR, decide_eq_true_iff] at h2
      congr 1
      apply decide_eq_decide.mpr
      constructor
      · intro e
        exact ⟨by omega, Prod.ext (by show s.1 = (i : Int) + 1; omega) h1⟩
      · rintro ⟨_, e⟩
        have := congrArg Prod.fst e
        simp only at this
        omega
    · rw [if_neg h2]
      have : ¬ (i < 64 ∧ s = ((i : Int) + 1, t)) := by
        rintro ⟨hi, e⟩
        apply h2
        rw [e, inR, decide_eq_true_iff]
        simp only
        omega
      simp [this]
  · rw [if_neg h1]
    have : ¬ (i < 64 ∧ s = ((i : Int) + 1, t)) := by
      rintro ⟨_, e⟩
      exact h1 (by rw [e])
    simp [this]
theorem fold_bit (l : List Sl) (t : List UInt8) (o i : Nat) : (l.foldl (step t) o).testBit i = (o.testBit i || decide (i < 64 ∧ ((i : Int) + 1, t) ∈ l)) := by
  induction l generalizing o with
  | nil => simp
  | cons s l ih =>
    rw [List.foldl_cons, ih, step_bit]
    have e : (((i : Int) + 1, t) = s) ↔ (s = ((i : Int) + 1, t)) := ⟨Eq.symm, Eq.symm⟩
    simp only [List.mem_cons, e]
    by_cases hi : i < 64 <;> by_cases h1 : s = ((i : Int) + 1, t) <;> by_cases h2 : ((i : Int) + 1, t) ∈ l <;> simp [hi, h1, h2]
theorem fold_by (l : List Sl) (t : List UInt8) : fold l t = by' l t := by
  apply Nat.eq_of_testBit_eq
  intro i
  rw [fold, fold_bit, by', byTo_bit]
  by_cases hi : i < 64 <;> simp [hi, has]
theorem step_lt (t : List UInt8) (o : Nat) (s : Sl) (ho : o < 18446744073709551616) : step t o s < 18446744073709551616 := by
  rw [step]
  split
  · split
    · rename_i h
      simp only [inR, decide_eq_true_iff] at h
      exact Nat.or_lt_two_pow (n := 64) ho (Nat.pow_lt_pow_right (by omega) (by omega))
    · exact ho
  · exact ho
theorem fold_lt (l : List Sl) (t : List UInt8) (o : Nat) (ho : o < 18446744073709551616) : l.foldl (step t) o < 18446744073709551616 := by
  induction l generalizing o with
  | nil => exact ho
  | cons s l ih => exact ih _ (step_lt t o s ho)
theorem fold_step (l : List Sl) (t : List UInt8) (k : Nat) (h : k < l.length) : fold (l.take (k + 1)) t = step t (fold (l.take k) t) l[k] := by
  rw [fold, List.take_succ_eq_append_getElem h, List.foldl_append]; rfl
theorem all_bits (l : List Sl) (x : Nat) (t : List UInt8) : all l x t = decide (x &&& (18446744073709551615 - by' l t) = 0) := by
  have hb : by' l t < 2 ^ 64 := byTo_lt l t 64 (by omega)
  rw [Bool.eq_iff_iff, decide_eq_true_iff, all_iff]
  have e : 18446744073709551615 - by' l t = 2 ^ 64 - (by' l t + 1) := by omega
  have e2 : ∀ i, (18446744073709551615 - by' l t).testBit i = (decide (i < 64) && !(decide (i < 64) && has l ((i : Int) + 1, t))) := by
    intro i
    rw [e, Nat.testBit_two_pow_sub_succ hb, by', byTo_bit]
  constructor
  · intro h
    apply Nat.eq_of_testBit_eq
    intro i
    rw [Nat.testBit_and, e2, Nat.zero_testBit]
    by_cases hi : i < 64
    · by_cases hx : x.testBit i = true
      · simp [hi, has, h i hi hx]
      · simp [hx]
    · simp [hi]
  · intro h i hi hx
    have h2 := congrArg (fun n => n.testBit i) h
    simp only [Nat.testBit_and, e2, Nat.zero_testBit, hx, hi, has] at h2
    simpa using h2
end Bk
namespace Go.Proofs.Ytpodccgaigkalaa
open Go.RowKit

set_option maxHeartbeats 2000000 in
theorem pby_any (v : Value) (l : List Bk.Sl) (t : List UInt8) (w : World) (hs : FlatAt w v 2 (seals l)) (hl : l.length ≤ 140737488351232) :
    Calls Try.prog 18 #[v, tx t] w fun e w' => e = .returned (.int .u64 (Bk.by' l t)) ∧ Below w.heap.size w w' := by
  rw [← Bk.fold_by]
  rcases flat_seals hs (Below.refl _ _) with ⟨rfl, a, cap, rfl⟩ | ⟨h0, b, off, cap, rfl, hc⟩
  · go_enter Try.func18, Try.ntmps18
    go_wp2_with fail
    refine wp_loop_rounds 1 ?_
    rw [rounds_succ]
    go_wp2
    go_ret
    exact ⟨rfl, Below.refl _ _⟩
  · have HC := Lib.hid hc
    have HST := Lib.hid (Bk.fold_step l t)
    have HLT := Lib.hid fun k => Bk.fold_lt (l.take k) t 0 (by omega)
    clear hc hs
    go_enter Try.func18, Try.ntmps18
    go_wp2_with fail
    go_loopw [5, 7, 8, 9, 12] (fun o _ _ _ i wr => ∃ k : Nat, i = .int .i64 k ∧ k ≤ l.length ∧ o = .int .u64 (Bk.fold (l.take k) t) ∧ Below w.heap.size w wr) (fun _ _ _ _ i _ => l.length - (intOf i).toNat)
    case atStart => exact ⟨0, rfl, by omega, rfl, Below.refl _ _⟩
    case round =>
      obtain ⟨k, rfl, hk, rfl, hbel⟩ := hrel
      have HB := Lib.hid hbel
      clear hbel
      by_cases hlt : k < l.length
      · obtain ⟨c1', c2'⟩ := HC.out k hlt
        have c1 := below_cell HB.out c1'
        have c2 := below_cell HB.out c2'
        have hst := HST.out k hlt
        have hFl := HLT.out k
        have n1 : wr.heap.size ≠ b := World.new_ne wr _ c1
        clear c1' c2'
        obtain ⟨y, hy⟩ : ∃ y, l[k] = y := ⟨_, rfl⟩
        rw [hy] at c1 c2 hst
        obtain ⟨z, u⟩ := y
        simp only [iv] at c1 c2
        obtain ⟨F, hF⟩ : ∃ x, Bk.fold (l.take k) t = x := ⟨_, rfl⟩
        have hFl' : F < 18446744073709551616 := by rw [← hF]; exact hFl
        obtain ⟨G, hG⟩ : ∃ x, Bk.fold (l.take (k + 1)) t = x := ⟨_, rfl⟩
        rw [hF, hG] at hst
        rw [hF]
        have HG := Lib.hid hG
        clear hy hF hG hFl
        have hb3 := HB.out.alloc HB.out.size (.cells #[.int .i64 z, tx u] 24)
        have HB3 := Lib.hid hb3
        clear hb3
        by_cases hu : u = t
        · subst hu
          by_cases hr : 1 ≤ z ∧ z ≤ 64
          · have hp := fun W => pput_any F z hFl' W
            have e : Se.putR F z = (F ||| 2 ^ (z.toNat - 1), 0) := by rw [Se.putR, if_pos hr]; rfl
            rw [e] at hp
            have e2 : G = F ||| 2 ^ (z.toNat - 1) := by rw [hst, Bk.step, if_pos rfl, if_pos (by simpa [Bk.inR] using hr)]
            have E2 := Lib.hid e2
            generalize F ||| 2 ^ (z.toNat - 1) = N at *
            clear e e2 hst hr
            go_wp2_with fail
            refine (hp _).mono ?_
            rintro e w1 ⟨rfl, rfl⟩
            go_wp2
            go_roundw
            case rel => exact ⟨k + 1, by go_num, hlt, by rw [HG.out, E2.out], HB3.out⟩
            case measure => simp [intOf]; omega
          · have hp := fun W => pput_any F z hFl' W
            have e : Se.putR F z = (0, 1) := by rw [Se.putR, if_neg hr]
            rw [e] at hp
            have e2 : G = F := by rw [hst, Bk.step, if_pos rfl, if_neg (by simpa [Bk.inR] using hr)]
            have E2 := Lib.hid e2
            clear e e2 hst hr
            go_wp2_with fail
            refine (hp _).mono ?_
            rintro e w1 ⟨rfl, rfl⟩
            go_wp2
            go_roundw
            case rel => exact ⟨k + 1, by go_num, hlt, by rw [HG.out, E2.out], HB3.out⟩
            case measure => simp [intOf]; omega
        · have e2 : G = F := by rw [hst, Bk.step, if_neg hu]
          have E2 := Lib.hid e2
          have q1 : (u == t) = false := by simpa using hu
          have q2 : (u != t) = true := by simpa using hu
          have q3 : ¬ t = u := fun e => hu e.symm
          clear e2 hst
          go_wp2_with fail
          all_goals try go_roundw
          all_goals first
            | exact ⟨⟨k + 1, by go_num, hlt, by rw [HG.out, E2.out], HB3.out⟩, by simp [intOf]; omega⟩
            | exact ⟨k + 1, by go_num, hlt, by rw [HG.out, E2.out], HB3.out⟩
            | (simp [intOf]; omega)
            | (with_reducible rfl)
      · obtain rfl : k = l.length := by omega
        rw [List.take_length]
        go_wp2
        go_ret
        exact ⟨rfl, HB.out⟩

theorem pby_eq {v : Value} {l : List Bk.Sl} {t : List UInt8} {r : Nat} (h : Bk.by' l t = r) (w : World) (hs : FlatAt w v 2 (seals l)) (hl : l.length ≤ 140737488351232) :
    Calls Try.prog 18 #[v, tx t] w fun e w' => e = .returned (.int .u64 r) ∧ Below w.heap.size w w' := by subst h; exact pby_any v l t w hs hl

set_option maxHeartbeats 1000000 in
theorem pall_any (v : Value) (l : List Bk.Sl) (x : Nat) (t : List UInt8) (w : World) (hs : FlatAt w v 2 (seals l)) (hl : l.length ≤ 140737488351232) (hx : x < 18446744073709551616) :
    Calls Try.prog 20 #[v, .int .u64 x, tx t] w fun e w' => e = .returned (.bool (Bk.all l x t)) ∧ Below w.heap.size w w' := by
  have hb : Bk.by' l t < 18446744073709551616 := Bk.byTo_lt l t 64 (by omega)
  have hby := fun W hs => pby_any v l t W hs hl
  have ha := Bk.all_bits l x t
  generalize Bk.by' l t = B at *
  have hn := u64_andNot_nat x B hx hb
  have HN := Lib.hid hn
  have HA := Lib.hid ha
  have HS := Lib.hid hs
  clear hn ha hs
  go_enter Try.func20, Try.ntmps20
  go_wp2_with fail
  refine (hby _ HS.out).mono ?_
  rintro e w1 ⟨rfl, h1⟩
  go_wp2_with fail
  go_ret
  refine ⟨?_, h1⟩
  have e : ∀ N : Nat, ((N : Int) == 0) = decide (N = 0) := fun N => by rw [Bool.eq_iff_iff, beq_iff_eq, decide_eq_true_iff]; omega
  rw [HA.out, HN.out]
  simp [e]
theorem pall_eq {v : Value} {l : List Bk.Sl} {x : Nat} {t : List UInt8} {r : Bool} (h : Bk.all l x t = r) (w : World) (hs : FlatAt w v 2 (seals l)) (hl : l.length ≤ 140737488351232) (hx : x < 18446744073709551616) :
    Calls Try.prog 20 #[v, .int .u64 x, tx t] w fun e w' => e = .returned (.bool r) ∧ Below w.heap.size w w' := by subst h; exact pall_any v l x t w hs hl hx
end Go.Proofs.Ytpodccgaigkalaa
