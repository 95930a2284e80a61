/- SeatsTurn: the walk. -/
import Derived.Test.YtlfclkolbjiafaaSeatIface
import Derived.Test.YtlfclkolbjiafaaOpen
namespace Go.Proofs.Ytlfclkolbjiafaa
open Go.RowKit Go.ChangeShapes Go.WideShapes Go.ChangeAt

theorem ids_ints (l : List Nat) : ids l = ints (l.map fun (i : Nat) => (i : Int)) := by simp [ids, ints]

set_option maxHeartbeats 4000000 in
theorem seatsTurn_core (v : Nat) (hv : v < 18446744073709551616) (W : World) :
    Calls Try.prog 6 #[.int .u64 v] W fun e W' => e = .returned (.bool true) ∧ Below W.heap.size W W' := by
  obtain ⟨l, hl'⟩ : ∃ l, Se.list v = l := ⟨_, rfl⟩
  have hof' : Se.of (l.map fun (i : Nat) => (i : Int)) = (v, 0) := by rw [← hl']; exact Se.ofL_list v hv
  have hup' : ∀ j (h : j + 1 < l.length), l[j] < l[j + 1] := by
    intro j h
    have := Se.list_up v
    rw [hl'] at this
    exact List.pairwise_iff_getElem.1 this j (j + 1) (by omega) h (by omega)
  have hmx' : ∀ k (h : k < l.length), 1 ≤ l[k] ∧ l[k] ≤ 64 ∧ Se.has v (l[k] : Nat) = true := by
    intro k h
    have hm : l[k] ∈ Se.list v := by rw [hl']; exact List.getElem_mem h
    have h2 := (Se.list_mem v l[k]).1 hm
    exact ⟨h2.1, h2.2.1, (Se.has_iff v _).2 ⟨l[k], hm, rfl⟩⟩
  have HU := Lib.hid hup'
  have HM := Lib.hid hmx'
  have hlen : l.length ≤ 64 := by rw [← hl']; exact list_len64 v
  have hcount' : Se.count v = l.length := by rw [← hl']; rfl
  have HL := Lib.hid hl'
  have HO := Lib.hid hof'
  have HC := Lib.hid hcount'
  have HW := Lib.hid (Se.within_all v)
  clear hl' hof' hcount' hup' hmx'
  go_enter Try.func6, Try.ntmps6
  go_wp2_with fail
  refine (seatShown_any _).mono ?_
  rintro e w1 ⟨rfl, g1⟩
  go_wp2_with fail
  refine (s_list HL.out hv _).mono ?_
  rintro e w2 ⟨s, rfl, hs, h2⟩
  have g2 := grow_trans g1 h2
  have hs2 := hs
  rw [ids_ints] at hs2
  clear g1 h2
  go_wp2_with fail
  refine (s_of HO.out _ hs2 (by simp; omega)).mono ?_
  rintro e w3 ⟨rfl, h3⟩
  have g3 := grow_trans g2 h3
  have hop := rlist_open hs h3
  clear hs hs2 h3 g2
  rcases hop with ⟨rfl, a, cap, rfl⟩ | ⟨b, off, cap, rfl, hc'⟩
  · go_wp2_with fail
    refine wp_loop_rounds 1 ?_
    rw [rounds_succ]
    go_wp2_with fail
    refine (s_count HC.out hv _).mono ?_
    rintro e w4 ⟨rfl, h4⟩
    have g4 := grow_trans g3 h4
    go_wp2_with fail
    refine (s_within HW.out hv (by decide) (by decide) _).mono ?_
    rintro e w5 ⟨rfl, h5⟩
    have g5 := grow_trans g4 h5
    go_wp2
    go_ret
    exact ⟨rfl, g5⟩
  · have HCC := Lib.hid hc'
    clear hc'
    go_wp2_with fail
    go_loopw [7] (fun i wr => ∃ k : Nat, i = .int .i64 k ∧ k ≤ l.length ∧ ∃ n, wr = w3.drewN n) (fun i _ => l.length - (intOf i).toNat)
    case atStart => exact ⟨0, rfl, by omega, 0, rfl⟩
    case round =>
      obtain ⟨k, rfl, hk, q, hq⟩ := hrel
      by_cases hlt : k < l.length
      · have hck : wr.cell? ⟨b, off + k, none⟩ = some (iv (l[k] : Nat)) := by rw [hq]; simpa using HCC.out k hlt
        have HQ := Lib.hid hq
        have hm := HM.out k hlt
        obtain ⟨m1, m2, m3⟩ := hm
        have hi0 : (0 : Int) ≤ (k : Int) := by omega
        have hi1 : (k : Int) < (l.length : Int) := by omega
        simp only [iv] at hck
        cases k with
        | zero =>
          obtain ⟨x, hx⟩ : ∃ x, l[0] = x := ⟨_, rfl⟩
          rw [hx] at hck m1 m2 m3
          have hh := fun W => phas_any v (x : Nat) hv W
          rw [m3] at hh
          rw [Nat.add_zero] at hck
          clear hx m3 hi0 hk hq
          go_wp2
          go_quiet ((go_at_call 27; exact Calls.quiet_of_same (hh _)))
          go_wp2
          go_roundw
          case rel => exact ⟨1, by go_num, by omega, drewN_ex ⟨q, HQ.out⟩ _⟩
          case measure => simp [intOf]; omega
        | succ j =>
          have hcj : wr.cell? ⟨b, off + j, none⟩ = some (iv (l[j] : Nat)) := by rw [hq]; simpa using HCC.out j (by omega)
          have hu := HU.out j hlt
          simp only [iv] at hcj
          obtain ⟨x, hx⟩ : ∃ x, l[j + 1] = x := ⟨_, rfl⟩
          obtain ⟨y, hy⟩ : ∃ y, l[j] = y := ⟨_, rfl⟩
          rw [hx] at hck m1 m2 m3 hu
          rw [hy] at hcj hu
          have hh := fun W => phas_any v (x : Nat) hv W
          rw [m3] at hh
          have hle : decide (x ≤ y) = false := by simp; omega
          have hpos : decide ((0 : Int) < (j : Int) + 1) = true := decide_eq_true (by omega)
          have hj1 : (0 : Int) ≤ (j : Int) + 1 := by omega
          have hj2 : (j : Int) + 1 < (l.length : Int) := by omega
          have hj3 : (0 : Int) ≤ (j : Int) := by omega
          have hj4 : (j : Int) < (l.length : Int) := by omega
          have hj5 : ((j : Int) + 1).toNat = j + 1 := by omega
          have hj6 : (j : Int).toNat = j := by omega
          have hj7 : IntKind.i64.wrap (j : Int) = (j : Int) := IntWalk.i64_in _ ⟨by omega, by omega⟩
          have hj8 : IntKind.i64.wrap ((j : Int) + 1 - 1) = (j : Int) := by rw [Int.add_sub_cancel]; exact hj7
          clear hx hy m3 hu hi0 hi1 hk hq
          go_wp2
          go_quiet ((go_at_call 27; exact Calls.quiet_of_same (hh _)))
          clear hj1 hj2 hj3 hj4 hj5 hj6 hj7 hj8 hpos hh hck hcj
          go_wp2
          go_roundw
          case rel => exact ⟨j + 2, by go_num, by omega, drewN_ex ⟨q, HQ.out⟩ _⟩
          case measure => simp [intOf]; omega
      · obtain rfl : k = l.length := by omega
        subst hq
        go_wp2_with fail
        refine (s_count HC.out hv _).mono ?_
        rintro e w4 ⟨rfl, h4⟩
        have g4 := grow_trans (grow_trans g3 (grow_draws _ q)) h4
        go_wp2_with fail
        refine (s_within HW.out hv (by decide) (by decide) _).mono ?_
        rintro e w5 ⟨rfl, h5⟩
        have g5 := grow_trans g4 h5
        go_wp2
        go_ret
        exact ⟨rfl, g5⟩

theorem seatsTurn_walk {H : Type} (enc : TypeId × Value → H) (W : World) (base : Nat) (v0 : Value) (d0 : DataW H) (p0 : List MemPlace)
    (h0 : DataW.Trod enc Try.prog W 0 (fun _ => true) true 25 v0 d0 p0) (o0 : Value.okWide Try.prog W .any base 25 v0)
    (_hsz : (DataW.weightsEach Try.prog [25] [d0]).all (· ≤ reachBytes) = true) :
    Calls Try.prog 6 #[v0] W fun e W' => e = .returned (.bool true) ∧ Below W.heap.size W W' := by
  obtain ⟨v, hv, rfl, rfl, rfl⟩ := open_u64 Try.underlying25 o0 h0
  exact seatsTurn_core v hv W
end Go.Proofs.Ytlfclkolbjiafaa
