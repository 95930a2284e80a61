/- The contracts of TakeText, in the program's own text and in the document's answer. -/
import Derived.Test.YtkkiedmcpibnaaaDoorDigRTakeNum
namespace Go.Proofs.YtkkiedmcpibnaaaDoor
open Go.RowKit

theorem ba_take (r : List UInt8) (k : Nat) : (ByteArray.mk r.toArray).extract 0 k = ByteArray.mk (r.take k).toArray := by
  apply ByteArray.ext
  apply Array.toList_inj.1
  rw [Lib.extract_data]
  simp

theorem takeNum_eq {l : List UInt8} {n : Nat} {r : List UInt8} {x : Nat} (h : Dg.takeNum l = (n, r, x)) (hl : l.length ≤ 140737488351232) (w : World) :
    Calls Tryd.prog 56 #[tx l] w fun e w' => e = .returned (.tuple #[.int .u64 n, tx r, .int .i64 x]) ∧ ∃ k, w' = w.drewN k :=
  (takeNum_any l hl w).mono fun e w' hh => by rw [TN, h] at hh; exact hh
theorem rtakeNum_eq {l : List UInt8} {n : Nat} {r : List UInt8} {x : Nat} (h : Dg.takeNum l = (n, r, x)) (hl : l.length ≤ 140737488351232) (w : World) :
    Calls Tryd.prog 41 #[tx l] w fun e w' => e = .returned (.tuple #[.int .u64 n, tx r, .int .i64 x]) ∧ ∃ k, w' = w.drewN k :=
  (rtakeNum_any l hl w).mono fun e w' hh => by rw [TN, h] at hh; exact hh

set_option maxHeartbeats 1000000 in
theorem above_any (n : Nat) (most : Int) (h1 : -9223372036854775808 ≤ most) (h2 : most ≤ 9223372036854775807) (w : World) :
    Calls Tryd.prog 57 #[.int .u64 n, .int .i64 most] w fun e w' => e = .returned (.bool (Dg.above n most)) ∧ w = w' := by
  by_cases hm : most < 0
  · have ha : Dg.above n most = true := by simp [Dg.above, hm]
    have HA := Lib.hid ha
    clear ha
    go_enter Tryd.func57, Tryd.ntmps57
    go_wp2
    go_ret
    exact ⟨by rw [HA.out]; rfl, rfl⟩
  · obtain ⟨m, rfl⟩ := Int.eq_ofNat_of_zero_le (show 0 ≤ most by omega)
    by_cases hc : m < n
    · have ha : Dg.above n m = true := by simp [Dg.above, hc]
      have HA := Lib.hid ha
      clear ha
      go_enter Tryd.func57, Tryd.ntmps57
      go_wp2
      go_ret
      exact ⟨by rw [HA.out]; rfl, rfl⟩
    · have ha : Dg.above n m = false := by simp [Dg.above]; omega
      have HA := Lib.hid ha
      clear ha
      go_enter Tryd.func57, Tryd.ntmps57
      go_wp2
      go_ret
      exact ⟨by rw [HA.out]; rfl, rfl⟩

theorem above_eq {n : Nat} {most : Int} {b : Bool} (h : Dg.above n most = b) (h1 : -9223372036854775808 ≤ most) (h2 : most ≤ 9223372036854775807) (w : World) :
    Calls Tryd.prog 57 #[.int .u64 n, .int .i64 most] w fun e w' => e = .returned (.bool b) ∧ w = w' :=
  (above_any n most h1 h2 w).mono fun e w' hh => by rw [h] at hh; exact hh

def TT (l : List UInt8) (most : Int) (w : World) (e : Ending) (w' : World) : Prop :=
  e = .returned (.tuple #[tx (Dg.takeText l most).1, tx (Dg.takeText l most).2.1, .int .i64 (Dg.takeText l most).2.2]) ∧ ∃ n, w' = w.drewN n

set_option maxHeartbeats 1000000 in
theorem takeText_any (l : List UInt8) (most : Int) (hl : l.length ≤ 140737488351232) (h1 : -9223372036854775808 ≤ most) (h2 : most ≤ 9223372036854775807) (w : World) :
    Calls Tryd.prog 49 #[tx l, .int .i64 most] w (TT l most w) := by
  obtain ⟨n, r, x, ht⟩ : ∃ n r x, Dg.takeNum l = (n, r, x) := ⟨_, _, _, rfl⟩
  have hr := Dg.takeNum_rest l
  have hn := Dg.takeNum_bound l
  have hx := Dg.takeNum_err l
  rw [ht] at hr hn hx
  simp only [] at hr hn hx
  have hf : Dg.takeText l most = if x ≠ 0 then ([], [], x) else if Dg.above n most = true then ([], [], 4) else if r.length < n then ([], [], 2) else (r.take n, r.drop n, 0) := by simp only [Dg.takeText, ht]
  by_cases h0 : x = 0
  · subst h0
    cases ha : Dg.above n most with
    | true =>
      rw [if_neg (by simp), if_pos ha] at hf
      have HF := Lib.hid hf
      have HA := Lib.hid ha
      have HT := Lib.hid ht
      clear hf ha ht hx
      go_enter Tryd.func49, Tryd.ntmps49
      go_wp2_with fail
      refine (takeNum_eq HT.out hl _).mono ?_
      rintro e w1 ⟨rfl, k, rfl⟩
      go_wp2_with fail
      refine (above_eq HA.out h1 h2 _).mono ?_
      rintro e w1 ⟨rfl, rfl⟩
      go_wp2_with fail
      go_ret3
      exact ⟨by rw [HF.out]; rfl, _, rfl⟩
    | false =>
      rw [if_neg (by simp), if_neg (by simp [ha])] at hf
      have HA := Lib.hid ha
      have HT := Lib.hid ht
      clear ha ht hx
      by_cases hs : r.length < n
      · rw [if_pos hs] at hf
        have HF := Lib.hid hf
        clear hf
        go_enter Tryd.func49, Tryd.ntmps49
        go_wp2_with fail
        refine (takeNum_eq HT.out hl _).mono ?_
        rintro e w1 ⟨rfl, k, rfl⟩
        go_wp2_with fail
        refine (above_eq HA.out h1 h2 _).mono ?_
        rintro e w1 ⟨rfl, rfl⟩
        go_wp2_with fail
        go_ret3
        exact ⟨by rw [HF.out]; rfl, _, rfl⟩
      · rw [if_neg hs] at hf
        have HF := Lib.hid hf
        clear hf
        go_enter Tryd.func49, Tryd.ntmps49
        go_wp2_with fail
        refine (takeNum_eq HT.out hl _).mono ?_
        rintro e w1 ⟨rfl, k, rfl⟩
        go_wp2_with fail
        refine (above_eq HA.out h1 h2 _).mono ?_
        rintro e w1 ⟨rfl, rfl⟩
        go_wp2_with fail
        go_quiet (fail)
        simp only [ba_take, ba_drop]
        go_wp2
        go_ret3
        exact ⟨by rw [HF.out]; rfl, _, by rw [World.drewN_drewN]⟩
  · rw [if_pos h0] at hf
    have h0' : ((x : Int) != 0) = true := by rw [bne_iff_ne]; omega
    have HF := Lib.hid hf
    have HT := Lib.hid ht
    have H0 := Lib.hid h0
    clear hf ht hx h0
    go_enter Tryd.func49, Tryd.ntmps49
    go_wp2_with fail
    refine (takeNum_eq HT.out hl _).mono ?_
    rintro e w1 ⟨rfl, k, rfl⟩
    go_wp2_with fail
    go_ret3
    exact ⟨by rw [HF.out]; rfl, _, rfl⟩
set_option maxHeartbeats 1000000 in
theorem rtakeText_any (l : List UInt8) (most : Int) (hl : l.length ≤ 140737488351232) (h1 : -9223372036854775808 ≤ most) (h2 : most ≤ 9223372036854775807) (w : World) :
    Calls Tryd.prog 31 #[tx l, .int .i64 most] w (TT l most w) := by
  obtain ⟨n, r, x, ht⟩ : ∃ n r x, Dg.takeNum l = (n, r, x) := ⟨_, _, _, rfl⟩
  have hr := Dg.takeNum_rest l
  have hn := Dg.takeNum_bound l
  have hx := Dg.takeNum_err l
  rw [ht] at hr hn hx
  simp only [] at hr hn hx
  have hf : Dg.takeText l most = if x ≠ 0 then ([], [], x) else if Dg.above n most = true then ([], [], 4) else if r.length < n then ([], [], 2) else (r.take n, r.drop n, 0) := by simp only [Dg.takeText, ht]
  have HT := Lib.hid ht
  clear ht
  by_cases h0 : x = 0
  · subst h0
    rw [if_neg (by simp)] at hf
    by_cases hm : most < 0
    · rw [if_pos (by simp [Dg.above, hm])] at hf
      have HF := Lib.hid hf
      clear hf hx
      go_enter Tryd.func31, Tryd.ntmps31
      go_wp2_with fail
      refine (rtakeNum_eq HT.out hl _).mono ?_
      rintro e w1 ⟨rfl, k, rfl⟩
      go_wp2_with fail
      go_ret3
      exact ⟨by rw [HF.out]; rfl, _, rfl⟩
    · obtain ⟨m, rfl⟩ := Int.eq_ofNat_of_zero_le (show 0 ≤ most by omega)
      by_cases hc : m < n
      · rw [if_pos (by simp [Dg.above, hc])] at hf
        have HF := Lib.hid hf
        clear hf hx
        go_enter Tryd.func31, Tryd.ntmps31
        go_wp2_with fail
        refine (rtakeNum_eq HT.out hl _).mono ?_
        rintro e w1 ⟨rfl, k, rfl⟩
        go_wp2_with fail
        go_ret3
        exact ⟨by rw [HF.out]; rfl, _, rfl⟩
      · rw [if_neg (by simp [Dg.above]; omega)] at hf
        clear hx
        by_cases hs : r.length < n
        · rw [if_pos hs] at hf
          have HF := Lib.hid hf
          clear hf
          go_enter Tryd.func31, Tryd.ntmps31
          go_wp2_with fail
          refine (rtakeNum_eq HT.out hl _).mono ?_
          rintro e w1 ⟨rfl, k, rfl⟩
          go_wp2_with fail
          go_ret3
          exact ⟨by rw [HF.out]; rfl, _, rfl⟩
        · rw [if_neg hs] at hf
          have HF := Lib.hid hf
          clear hf
          go_enter Tryd.func31, Tryd.ntmps31
          go_wp2_with fail
          refine (rtakeNum_eq HT.out hl _).mono ?_
          rintro e w1 ⟨rfl, k, rfl⟩
          go_wp2_with fail
          go_quiet (fail)
          simp only [ba_take, ba_drop]
          go_wp2
          go_ret3
          exact ⟨by rw [HF.out]; rfl, _, by rw [World.drewN_drewN]⟩
  · rw [if_pos h0] at hf
    have h0' : ((x : Int) != 0) = true := by rw [bne_iff_ne]; omega
    have HF := Lib.hid hf
    clear hf hx h0
    go_enter Tryd.func31, Tryd.ntmps31
    go_wp2_with fail
    refine (rtakeNum_eq HT.out hl _).mono ?_
    rintro e w1 ⟨rfl, k, rfl⟩
    go_wp2_with fail
    go_ret3
    exact ⟨by rw [HF.out]; rfl, _, rfl⟩

theorem takeText_eq {l : List UInt8} {most : Int} {n r : List UInt8} {x : Nat} (h : Dg.takeText l most = (n, r, x)) (hl : l.length ≤ 140737488351232) (h1 : -9223372036854775808 ≤ most) (h2 : most ≤ 9223372036854775807) (w : World) :
    Calls Tryd.prog 49 #[tx l, .int .i64 most] w fun e w' => e = .returned (.tuple #[tx n, tx r, .int .i64 x]) ∧ ∃ k, w' = w.drewN k :=
  (takeText_any l most hl h1 h2 w).mono fun e w' hh => by rw [TT, h] at hh; exact hh
theorem rtakeText_eq {l : List UInt8} {most : Int} {n r : List UInt8} {x : Nat} (h : Dg.takeText l most = (n, r, x)) (hl : l.length ≤ 140737488351232) (h1 : -9223372036854775808 ≤ most) (h2 : most ≤ 9223372036854775807) (w : World) :
    Calls Tryd.prog 31 #[tx l, .int .i64 most] w fun e w' => e = .returned (.tuple #[tx n, tx r, .int .i64 x]) ∧ ∃ k, w' = w.drewN k :=
  (rtakeText_any l most hl h1 h2 w).mono fun e w' hh => by rw [TT, h] at hh; exact hh
end Go.Proofs.YtkkiedmcpibnaaaDoor
