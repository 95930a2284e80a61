/- The contracts of the document's answer of layer 5, the rest: Of, Within, Ints, May, Faults, Quorum, Weak. -/
import Derived.Test.YtlfclkolbjiafaaSeatRef2
import Derived.Test.YtlfclkolbjiafaaSeatRefC
namespace Go.Proofs.Ytlfclkolbjiafaa
open Go.RowKit

theorem ints_ids (l : List Nat) : ids l = ints (l.map fun (i : Nat) => (i : Int)) := by simp [ids, ints]

theorem putR_lt (v : Nat) (id : Int) (hv : v < 18446744073709551616) : (Se.putR v id).1 < 18446744073709551616 := by
  unfold Se.putR
  split
  · exact Se.put_lt v _ hv (by omega) (by omega)
  · simp

set_option maxHeartbeats 2000000 in
theorem rof_any (s : Value) (l : List Int) (w : World) (hs : FlatAt w s 1 (ints l)) (hl : l.length ≤ 9223372036854775807) :
    Calls Try.prog 23 #[s] w fun e w' => e = .returned (.tuple #[.int .u64 (Se.of l).1, .int .i64 (Se.of l).2]) ∧ Below w.heap.size w w' := by
  rcases flat_ints hs (Below.refl _ _) with ⟨rfl, a, cap, rfl⟩ | ⟨h0, b, off, cap, rfl, hc⟩
  · go_enter Try.func23, Try.ntmps23
    go_wp2_with fail
    refine wp_loop_rounds 1 ?_
    rw [rounds_succ]
    go_wp2
    go_ret2
    exact ⟨rfl, Below.refl _ _⟩
  · have HC := Lib.hid hc
    clear hc hs h0
    go_enter Try.func23, Try.ntmps23
    go_wp2_with fail
    go_loopw [4, 5] (fun o i wr => ∃ (k v : Nat), i = .int .i64 k ∧ o = .int .u64 v ∧ k ≤ l.length ∧ v < 18446744073709551616 ∧ Se.ofL (l.drop k) v = Se.ofL l 0 ∧ Below w.heap.size w wr) (fun _ i _ => l.length - (intOf i).toNat)
    case atStart => exact ⟨0, 0, rfl, rfl, by omega, by omega, rfl, Below.refl _ _⟩
    case round =>
      obtain ⟨k, v, rfl, rfl, hk, hv, hof, hbel⟩ := hrel
      by_cases hlt : k < l.length
      · rw [List.drop_eq_getElem_cons hlt] at hof
        have hcell := below_cell hbel (HC.out k hlt)
        obtain ⟨x, hx⟩ : ∃ x, l[k] = x := ⟨_, rfl⟩
        rw [hx] at hof hcell
        simp only [iv] at hcell
        by_cases hr : 1 ≤ x ∧ x ≤ 64
        · rw [Se.ofL_put x _ v hr] at hof
          have hp : Se.putR v x = (Se.put v x.toNat, 0) := by rw [Se.putR, if_pos hr]
          have hlt2 := Se.put_lt v x.toNat hv (by omega) (by omega)
          have hput := fun W => rput_any v x hv W
          rw [hp] at hput
          have HP := Lib.hid hput
          have HF := Lib.hid hof
          clear hput hof hp hr hx
          go_wp2_with fail
          refine (HP.out _).mono ?_
          rintro e w1 ⟨rfl, hb1⟩
          have hb2 := grow_trans hbel hb1
          go_wp2_with fail
          go_roundw
          case rel => exact ⟨k + 1, _, by go_num, rfl, hlt, hlt2, HF.out, hb2⟩
          case measure => simp [intOf]; omega
        · rw [Se.ofL_bad x _ v hr] at hof
          have hp : Se.putR v x = (0, 1) := by rw [Se.putR, if_neg hr]
          have hput := fun W => rput_any v x hv W
          rw [hp] at hput
          have hfin : Se.of l = (0, 1) := by rw [Se.of, ← hof]
          have HP := Lib.hid hput
          have HF := Lib.hid hfin
          clear hput hof hp hr hx hfin
          go_wp2_with fail
          refine (HP.out _).mono ?_
          rintro e w1 ⟨rfl, hb1⟩
          have hb2 := grow_trans hbel hb1
          go_wp2_with fail
          go_ret2
          exact ⟨by rw [HF.out]; rfl, hb2⟩
      · obtain rfl : k = l.length := by omega
        rw [List.drop_length, Se.ofL] at hof
        have hfin : Se.of l = (v, 0) := by rw [Se.of, ← hof]
        have HF := Lib.hid hfin
        clear hof hfin
        go_wp2
        go_ret2
        exact ⟨by rw [HF.out]; rfl, hbel⟩

set_option maxHeartbeats 400000 in
theorem rwithin_any (v : Nat) (n : Int) (hv : v < 18446744073709551616) (h1 : -9223372036854775808 ≤ n) (h2 : n ≤ 9223372036854775807) (w : World) :
    Calls Try.prog 32 #[.int .u64 v, .int .i64 n] w fun e w' => e = .returned (.bool (Se.within v n)) ∧ Below w.heap.size w w' := by
  by_cases hr : 0 ≤ n ∧ n ≤ 64
  · obtain ⟨hr1, hr2⟩ := hr
    have hw : Se.within v n = (Se.list v).all fun i => decide ((i : Int) ≤ n) := by simp [Se.within, hr1, hr2]
    have hl := list_len64 v
    have hla := fun (h : (Se.list v).length - 1 < (Se.list v).length) => Se.all_last (Se.list v) h (Se.list_up v) n
    obtain ⟨l, hle⟩ : ∃ l, Se.list v = l := ⟨_, rfl⟩
    rw [hle] at hw hl hla
    have HL := Lib.hid hle
    have HW := Lib.hid hw
    have HA := Lib.hid hla
    have hd1 : ¬ n < 0 := by omega
    have hd2 : ¬ 64 < n := by omega
    clear hle hw hla
    go_enter Try.func32, Try.ntmps32
    go_wp2_with fail
    refine (rlist_any v hv _).mono ?_
    rintro e w1 ⟨s, rfl, hs, hb⟩
    rw [HL.out] at hs
    have hop := rlist_open hs (Below.refl _ _)
    have HB := Lib.hid hb
    clear hs hb
    rcases hop with ⟨rfl, a, cap, rfl⟩ | ⟨b, off, cap, rfl, hc⟩
    · go_wp2
      go_ret
      exact ⟨by rw [HW.out]; rfl, HB.out⟩
    · by_cases h0 : l.length = 0
      · have e : l = [] := List.length_eq_zero_iff.1 h0
        subst e
        go_wp2
        go_ret
        exact ⟨by rw [HW.out]; rfl, HB.out⟩
      · obtain ⟨m, hm⟩ : ∃ m, l.length = m + 1 := ⟨l.length - 1, by omega⟩
        have hcm := hc m (by omega)
        have hAm := HA.out (by omega)
        have em : l.length - 1 = m := by omega
        simp only [em] at hAm
        simp only [iv] at hcm
        obtain ⟨x, hx⟩ : ∃ x, l[m] = x := ⟨_, rfl⟩
        rw [hx] at hcm hAm
        have hmb : m ≤ 64 := by omega
        have hxm : x ≤ 64 := by
          have := (Se.list_mem v l[m]).1 (by rw [HL.out]; exact List.getElem_mem _)
          omega
        have hf : Se.within v n = decide ((x : Int) ≤ n) := by rw [HW.out, hAm]
        have HF := Lib.hid hf
        rw [hm]
        clear hc hAm hm em h0 hx hf HA HW
        have hz : ((m : Int) + 1 == 0) = false := by rw [beq_eq_false_iff_ne]; omega
        clear HL hr1 hr2 h1 h2 hl
        go_wp2
        go_ret
        exact ⟨by rw [HF.out]; rfl, HB.out⟩
  · have hw : Se.within v n = false := by simp [Se.within, hr]
    have HW := Lib.hid hw
    clear hw
    by_cases hn : n < 0
    · clear hr
      go_enter Try.func32, Try.ntmps32
      go_wp2
      go_ret
      exact ⟨by rw [HW.out]; rfl, Below.refl _ _⟩
    · have hn2 : 64 < n := by omega
      clear hr
      go_enter Try.func32, Try.ntmps32
      go_wp2
      go_ret
      exact ⟨by rw [HW.out]; rfl, Below.refl _ _⟩
end Go.Proofs.Ytlfclkolbjiafaa
