/- SeatsPuts: the walk. -/
import Derived.Test.YtlfclkolbjiafaaSeatIface
import Derived.Test.YtlfclkolbjiafaaOpen
import Derived.Test.YtlfclkolbjiafaaSeatMath2
namespace Go.Proofs.Ytlfclkolbjiafaa
open Go.RowKit Go.ChangeShapes Go.WideShapes Go.ChangeAt

set_option maxHeartbeats 4000000 in
theorem seatsPuts_core (v : Nat) (id other : Int) (hv : v < 18446744073709551616) (i1 : -9223372036854775808 ≤ id) (i2 : id ≤ 9223372036854775807) (j1 : -9223372036854775808 ≤ other) (j2 : other ≤ 9223372036854775807) (W : World) :
    Calls Try.prog 8 #[.int .u64 v, .int .i64 id, .int .i64 other] W fun e W' => e = .returned (.bool true) ∧ Below W.heap.size W W' := by
  by_cases hr : 1 ≤ id ∧ id ≤ 64
  · obtain ⟨i, rfl⟩ := Int.eq_ofNat_of_zero_le (show 0 ≤ id by omega)
    have h1 : 1 ≤ i := by omega
    have h2 : i ≤ 64 := by omega
    have ep : Se.putR v (i : Int) = (Se.put v i, 0) := by rw [Se.putR, if_pos hr]; rfl
    have hp := Se.put_lt v i hv h1 h2
    have hh := Se.has_put v i (i : Int) h1 h2
    have ho := Se.has_put v i other h1 h2
    simp only [decide_true, Bool.or_true] at hh
    have lc := Se.count_le v
    have ld := Se.count_le (Se.put v i)
    have hcp := Se.count_put v i h1 h2
    have hct := Se.put_there v i
    have hhv := Se.has_nat v i h1 h2
    obtain ⟨p, epp⟩ : ∃ x, Se.put v i = x := ⟨_, rfl⟩
    rw [epp] at ep hp hh ho ld hcp hct
    obtain ⟨c, ec⟩ : ∃ x, Se.count v = x := ⟨_, rfl⟩
    obtain ⟨d, ed⟩ : ∃ x, Se.count p = x := ⟨_, rfl⟩
    rw [ec] at lc hcp
    rw [ed] at ld hcp
    have PP := Lib.hid ep
    have C := Lib.hid ec
    have D := Lib.hid ed
    have H2 := Lib.hid hh
    clear ep hh epp hr
    have hoth : other ≠ (i : Int) → Se.has p other = Se.has v other := fun hne => by rw [ho]; simp [hne]
    clear ho
    cases hb : v.testBit (i - 1) with
    | true =>
      have hpv : p = v := hct hb
      have hcd : d = c := by rw [← ed, ← ec, hpv]
      have hfin : ((d : Int) == (c : Int)) = true := by rw [beq_iff_eq, hcd]
      rw [hb] at hhv
      have H1 := Lib.hid hhv
      clear hb hhv hpv hcd hct hcp ec ed
      by_cases ho : other = (i : Int)
      · have hoe : (other == (i : Int)) = true := by rw [beq_iff_eq]; exact ho
        clear ho hoth
        go_enter Try.func8, Try.ntmps8
        go_wp2_with fail
        refine (seatShown_any _).mono ?_
        rintro e w1 ⟨rfl, h1⟩
        have g1 := h1
        go_wp2_with fail
        refine (s_put PP.out hv i1 i2 _).mono ?_
        rintro e w2 ⟨rfl, h2⟩
        have g2 := grow_trans g1 h2
        go_wp2_with fail
        refine (s_count C.out hv _).mono ?_
        rintro e w3 ⟨rfl, h3⟩
        have g3 := grow_trans g2 h3
        go_wp2_with fail
        refine (s_has H1.out hv i1 i2 _).mono ?_
        rintro e w4 ⟨rfl, h4⟩
        have g4 := grow_trans g3 h4
        go_wp2_with fail
        refine (s_has H2.out hp i1 i2 _).mono ?_
        rintro e w5 ⟨rfl, h5⟩
        have g5 := grow_trans g4 h5
        go_wp2_with fail
        refine (s_count D.out hp _).mono ?_
        rintro e w6 ⟨rfl, h6⟩
        have g6 := grow_trans g5 h6
        go_wp2_with fail
        go_ret
        exact ⟨rfl, g6⟩
      · have hoe : (other == (i : Int)) = false := by rw [beq_eq_false_iff_ne]; exact ho
        have e1 := hoth ho
        obtain ⟨o, eo⟩ : ∃ x, Se.has v other = x := ⟨_, rfl⟩
        rw [eo] at e1
        have O1 := Lib.hid e1
        have O2 := Lib.hid eo
        clear ho hoth e1 eo
        go_enter Try.func8, Try.ntmps8
        go_wp2_with fail
        refine (seatShown_any _).mono ?_
        rintro e w1 ⟨rfl, h1⟩
        have g1 := h1
        go_wp2_with fail
        refine (s_put PP.out hv i1 i2 _).mono ?_
        rintro e w2 ⟨rfl, h2⟩
        have g2 := grow_trans g1 h2
        go_wp2_with fail
        refine (s_count C.out hv _).mono ?_
        rintro e w3 ⟨rfl, h3⟩
        have g3 := grow_trans g2 h3
        go_wp2_with fail
        refine (s_has H1.out hv i1 i2 _).mono ?_
        rintro e w4 ⟨rfl, h4⟩
        have g4 := grow_trans g3 h4
        go_wp2_with fail
        refine (s_has H2.out hp i1 i2 _).mono ?_
        rintro e w5 ⟨rfl, h5⟩
        have g5 := grow_trans g4 h5
        go_wp2_with fail
        refine (s_count D.out hp _).mono ?_
        rintro e w6 ⟨rfl, h6⟩
        have g6 := grow_trans g5 h6
        go_wp2_with fail
        refine (s_has O1.out hp j1 j2 _).mono ?_
        rintro e w7 ⟨rfl, h7⟩
        have g7 := grow_trans g6 h7
        go_wp2_with fail
        refine (s_has O2.out hv j1 j2 _).mono ?_
        rintro e w8 ⟨rfl, h8⟩
        have g8 := grow_trans g7 h8
        go_wp2_with fail
        go_ret
        exact ⟨rfl, g8⟩
    | false =>
      have hcd := hcp hb
      have hfin : ((d : Int) == (c : Int) + 1) = true := by rw [beq_iff_eq]; omega
      rw [hb] at hhv
      have H1 := Lib.hid hhv
      clear hb hhv hcd hct hcp ec ed
      by_cases ho : other = (i : Int)
      · have hoe : (other == (i : Int)) = true := by rw [beq_iff_eq]; exact ho
        clear ho hoth
        go_enter Try.func8, Try.ntmps8
        go_wp2_with fail
        refine (seatShown_any _).mono ?_
        rintro e w1 ⟨rfl, h1⟩
        have g1 := h1
        go_wp2_with fail
        refine (s_put PP.out hv i1 i2 _).mono ?_
        rintro e w2 ⟨rfl, h2⟩
        have g2 := grow_trans g1 h2
        go_wp2_with fail
        refine (s_count C.out hv _).mono ?_
        rintro e w3 ⟨rfl, h3⟩
        have g3 := grow_trans g2 h3
        go_wp2_with fail
        refine (s_has H1.out hv i1 i2 _).mono ?_
        rintro e w4 ⟨rfl, h4⟩
        have g4 := grow_trans g3 h4
        go_wp2_with fail
        refine (s_has H2.out hp i1 i2 _).mono ?_
        rintro e w5 ⟨rfl, h5⟩
        have g5 := grow_trans g4 h5
        go_wp2_with fail
        refine (s_count D.out hp _).mono ?_
        rintro e w6 ⟨rfl, h6⟩
        have g6 := grow_trans g5 h6
        go_wp2_with fail
        go_ret
        exact ⟨rfl, g6⟩
      · have hoe : (other == (i : Int)) = false := by rw [beq_eq_false_iff_ne]; exact ho
        have e1 := hoth ho
        obtain ⟨o, eo⟩ : ∃ x, Se.has v other = x := ⟨_, rfl⟩
        rw [eo] at e1
        have O1 := Lib.hid e1
        have O2 := Lib.hid eo
        clear ho hoth e1 eo
        go_enter Try.func8, Try.ntmps8
        go_wp2_with fail
        refine (seatShown_any _).mono ?_
        rintro e w1 ⟨rfl, h1⟩
        have g1 := h1
        go_wp2_with fail
        refine (s_put PP.out hv i1 i2 _).mono ?_
        rintro e w2 ⟨rfl, h2⟩
        have g2 := grow_trans g1 h2
        go_wp2_with fail
        refine (s_count C.out hv _).mono ?_
        rintro e w3 ⟨rfl, h3⟩
        have g3 := grow_trans g2 h3
        go_wp2_with fail
        refine (s_has H1.out hv i1 i2 _).mono ?_
        rintro e w4 ⟨rfl, h4⟩
        have g4 := grow_trans g3 h4
        go_wp2_with fail
        refine (s_has H2.out hp i1 i2 _).mono ?_
        rintro e w5 ⟨rfl, h5⟩
        have g5 := grow_trans g4 h5
        go_wp2_with fail
        refine (s_count D.out hp _).mono ?_
        rintro e w6 ⟨rfl, h6⟩
        have g6 := grow_trans g5 h6
        go_wp2_with fail
        refine (s_has O1.out hp j1 j2 _).mono ?_
        rintro e w7 ⟨rfl, h7⟩
        have g7 := grow_trans g6 h7
        go_wp2_with fail
        refine (s_has O2.out hv j1 j2 _).mono ?_
        rintro e w8 ⟨rfl, h8⟩
        have g8 := grow_trans g7 h8
        go_wp2_with fail
        go_ret
        exact ⟨rfl, g8⟩
  · have ep : Se.putR v id = (0, 1) := by rw [Se.putR, if_neg hr]
    have PP := Lib.hid ep
    clear ep
    by_cases hl : id < 1
    · clear hr
      go_enter Try.func8, Try.ntmps8
      go_wp2_with fail
      refine (seatShown_any _).mono ?_
      rintro e w1 ⟨rfl, h1⟩
      have g1 := h1
      go_wp2_with fail
      refine (s_put PP.out hv i1 i2 _).mono ?_
      rintro e w2 ⟨rfl, h2⟩
      have g2 := grow_trans g1 h2
      go_wp2_with fail
      go_ret
      exact ⟨rfl, g2⟩
    · have hg : 64 < id := by omega
      clear hr
      go_enter Try.func8, Try.ntmps8
      go_wp2_with fail
      refine (seatShown_any _).mono ?_
      rintro e w1 ⟨rfl, h1⟩
      have g1 := h1
      go_wp2_with fail
      refine (s_put PP.out hv i1 i2 _).mono ?_
      rintro e w2 ⟨rfl, h2⟩
      have g2 := grow_trans g1 h2
      go_wp2_with fail
      go_ret
      exact ⟨rfl, g2⟩

theorem seatsPuts_walk {H : Type} (enc : TypeId × Value → H) (W : World) (base : Nat) (v0 : Value) (v1 : Value) (v2 : Value) (d0 : DataW H) (d1 : DataW H) (d2 : DataW H) (p0 : List MemPlace) (p1 : List MemPlace) (p2 : List MemPlace)
    (h0 : DataW.Trod enc Try.prog W 0 (fun _ => true) true 25 v0 d0 p0) (o0 : Value.okWide Try.prog W .any base 25 v0)
    (h1 : DataW.Trod enc Try.prog W 0 (fun _ => true) true 3 v1 d1 p1) (o1 : Value.okWide Try.prog W .any base 3 v1)
    (h2 : DataW.Trod enc Try.prog W 0 (fun _ => true) true 3 v2 d2 p2) (o2 : Value.okWide Try.prog W .any base 3 v2)
    (hsz : (DataW.weightsEach Try.prog [25, 3, 3] [d0, d1, d2]).all (· ≤ reachBytes) = true) :
    Calls Try.prog 8 #[v0, v1, v2] W fun e W' => e = .returned (.bool true) ∧ Below W.heap.size W W' := by
  obtain ⟨v, hv, rfl, rfl, rfl⟩ := open_u64 Try.underlying25 o0 h0
  obtain ⟨id, i1, i2, rfl, rfl, rfl⟩ := open_i64 Try.underlying3 o1 h1
  obtain ⟨other, j1, j2, rfl, rfl, rfl⟩ := open_i64 Try.underlying3 o2 h2
  clear hsz
  exact seatsPuts_core v id other hv i1 i2 j1 j2 W
end Go.Proofs.Ytlfclkolbjiafaa
