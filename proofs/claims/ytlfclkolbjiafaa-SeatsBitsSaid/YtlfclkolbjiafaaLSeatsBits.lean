/- SeatsBits: the walk. -/
import Derived.Test.YtlfclkolbjiafaaSeatIface
import Derived.Test.YtlfclkolbjiafaaOpen
import Derived.Test.YtlfclkolbjiafaaOpenInts
import Derived.Test.YtlfclkolbjiafaaOpenOne
import Derived.Lib.SmallJoins
namespace Go.Proofs.Ytlfclkolbjiafaa
open Go.RowKit Go.ChangeShapes Go.WideShapes Go.ChangeAt

theorem r_ints_same {va vb : Value} {l : List Nat} (w : World) (ha : FlatAt w va 1 (ids l)) (hb : FlatAt w vb 1 (ids l)) (hl : l.length ≤ 64) :
    Calls Try.prog 24 #[va, vb] w fun e w' => e = .returned (.bool true) ∧ ∃ n, w' = w.drewN n := by
  rw [ints_ids] at ha hb
  refine (rints_any va vb _ _ w ha hb (by simp; omega)).mono fun e w' hh => ?_
  rw [beq_self_eq_true] at hh
  exact hh

set_option maxHeartbeats 4000000 in
theorem seatsBits_core (W : World) (bits : Nat) (id n : Int) (v : Value) (l : List Int) (hv : bits < 18446744073709551616) (i1 : -9223372036854775808 ≤ id) (i2 : id ≤ 9223372036854775807) (n1 : -9223372036854775808 ≤ n) (n2 : n ≤ 9223372036854775807) (fv : FlatAt W v 1 (ints l)) (hl : l.length ≤ 9223372036854775807) :
    Calls Try.prog 4 #[.agg #[.int .u64 bits, .int .i64 id, .int .i64 n, v]] W fun e W' => e = .returned (.bool true) ∧ Below W.heap.size W W' := by
  obtain ⟨pa, px, ep⟩ : ∃ a x, Se.putR bits id = (a, x) := ⟨_, _, rfl⟩
  obtain ⟨oa, ox, eo⟩ : ∃ a x, Se.of l = (a, x) := ⟨_, _, rfl⟩
  obtain ⟨ls, els⟩ : ∃ x, Se.list bits = x := ⟨_, rfl⟩
  obtain ⟨hb, ehb⟩ : ∃ x, Se.has bits id = x := ⟨_, rfl⟩
  obtain ⟨c, ec⟩ : ∃ x, Se.count bits = x := ⟨_, rfl⟩
  obtain ⟨wb, ewb⟩ : ∃ x, Se.within bits n = x := ⟨_, rfl⟩
  have hls : ls.length ≤ 64 := by rw [← els]; exact Se.count_le bits
  have PP := Lib.hid ep
  have PO := Lib.hid eo
  have PL := Lib.hid els
  have PH := Lib.hid ehb
  have PC := Lib.hid ec
  have PW := Lib.hid ewb
  have FV := Lib.hid fv
  clear ep eo els ehb ec ewb fv
  go_enter Try.func4, Try.ntmps4
  go_wp2_with fail
  refine (seatShown_any _).mono ?_
  rintro e w1 ⟨rfl, h1⟩
  have g1 := grow_trans ((Below.refl _ _).alloc (Nat.le_refl _) _) h1
  go_wp2_with fail
  refine (s_put PP.out hv i1 i2 _).mono ?_
  rintro e w2 ⟨rfl, h2⟩
  have g2 := grow_trans g1 h2
  go_wp2_with fail
  refine (r_put PP.out hv _).mono ?_
  rintro e w3 ⟨rfl, h3⟩
  have g3 := grow_trans g2 h3
  go_wp2_with fail
  refine (s_of PO.out _ (FV.out.below g3) hl).mono ?_
  rintro e w4 ⟨rfl, h4⟩
  have g4 := grow_trans g3 h4
  go_wp2_with fail
  refine (r_of PO.out _ (FV.out.below g4) hl).mono ?_
  rintro e w5 ⟨rfl, h5⟩
  have g5 := grow_trans g4 h5
  go_wp2_with fail
  refine (s_list PL.out hv _).mono ?_
  rintro e w6 ⟨v6, rfl, p6, h6⟩
  have g6 := grow_trans g5 h6
  have Q1 := Lib.hid p6
  clear p6
  go_wp2_with fail
  refine (r_list PL.out hv _).mono ?_
  rintro e w7 ⟨v7, rfl, p7, h7⟩
  have g7 := grow_trans g6 h7
  have Q2 := Lib.hid p7
  clear p7
  have Q3 := Lib.hid (Q1.out.below h7)
  go_wp2_with fail
  refine (r_ints_same _ Q3.out Q2.out (by omega)).mono ?_
  rintro e w8 ⟨rfl, k8, rfl⟩
  have g8 := grow_trans g7 (grow_draws _ k8)
  go_wp2_with fail
  refine (s_has PH.out hv i1 i2 _).mono ?_
  rintro e w9 ⟨rfl, h9⟩
  have g9 := grow_trans g8 h9
  go_wp2_with fail
  refine (r_has PH.out hv _).mono ?_
  rintro e w10 ⟨rfl, h10⟩
  have g10 := grow_trans g9 h10
  go_wp2_with fail
  refine (s_count PC.out hv _).mono ?_
  rintro e w11 ⟨rfl, h11⟩
  have g11 := grow_trans g10 h11
  go_wp2_with fail
  refine (r_count PC.out hv _).mono ?_
  rintro e w12 ⟨rfl, h12⟩
  have g12 := grow_trans g11 h12
  go_wp2_with fail
  refine (s_within PW.out hv n1 n2 _).mono ?_
  rintro e w13 ⟨rfl, h13⟩
  have g13 := grow_trans g12 h13
  go_wp2_with fail
  refine (r_within PW.out hv n1 n2 _).mono ?_
  rintro e w14 ⟨rfl, h14⟩
  have g14 := grow_trans g13 h14
  go_wp2_with fail
  go_ret
  exact ⟨rfl, g14⟩

theorem seatsBits_walk {H : Type} (enc : TypeId × Value → H) (W : World) (base : Nat) (v0 : Value) (d0 : DataW H) (p0 : List MemPlace)
    (h0 : DataW.Trod enc Try.prog W 0 (fun _ => true) true 28 v0 d0 p0) (o0 : Value.okWide Try.prog W .any base 28 v0)
    (hsz : (DataW.weightsEach Try.prog [28] [d0]).all (· ≤ reachBytes) = true) :
    Calls Try.prog 4 #[v0] W fun e W' => e = .returned (.bool true) ∧ Below W.heap.size W W' := by
  obtain ⟨a0, a1, a2, a3, y0, y1, y2, y3, m, rfl, rfl, _, e0, e1, e2, e3⟩ := Joins.open_agg4 Try.underlying28 (by kernel_rfl) (by kernel_rfl) o0 h0
  obtain ⟨bits, hv, rfl, rfl⟩ := trod_u64 Try.underlying25 e0
  obtain ⟨id, i1, i2, rfl, rfl⟩ := trod_i64 Try.underlying3 e1
  obtain ⟨n, n1, n2, rfl, rfl⟩ := trod_i64 Try.underlying3 e2
  obtain ⟨l, fv, hl, _⟩ := trod_ints Try.underlying26 e3
  clear hsz
  exact seatsBits_core W bits id n a3 l hv i1 i2 n1 n2 fv hl
end Go.Proofs.Ytlfclkolbjiafaa
