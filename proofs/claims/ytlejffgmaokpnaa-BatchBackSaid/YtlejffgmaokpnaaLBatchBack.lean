/- BatchBack: the walk. -/
import Derived.Test.YtlejffgmaokpnaaBatOpen
namespace Go.Proofs.Ytlejffgmaokpnaa
open Go.RowKit Go.ChangeShapes Go.WideShapes Go.ChangeAt
attribute [local go_sem] ByteArray.mk_append_mk

set_option maxHeartbeats 1000000 in
theorem batchBack_no (b : Bt.Bat) (v : Value) (c : Int) (W : World) (hv : TxAt W v b.2.2) (hl : b.2.2.length ≤ 140737488351232) (hm : Bt.may b = false) :
    Calls Try.prog 5 #[batV b.1 b.2.1 v, .int .i64 c] W fun e W' => e = .returned (.bool true) ∧ Below W.heap.size W W' := by
  have HR := Lib.hid (Bt.bytesR_no hm)
  have HM := Lib.hid hm
  have HV := Lib.hid hv
  obtain ⟨o, q, l⟩ := b
  obtain ⟨av, cv, rfl⟩ := hv.len
  simp only [] at HV hl
  have BX := Lib.hid (BBox.new W o q (.slice av l.length cv))
  have HG := Lib.hid (show Below W.heap.size W (W.alloc (.cells #[.int .i64 o, .int .i64 q, .slice av l.length cv] 25)) from (Below.refl _ _).alloc (Nat.le_refl _) _)
  clear hv hm
  simp only [batV]
  go_enter Try.func5, Try.ntmps5
  go_wp2_with fail
  refine (batShown _).mono ?_
  rintro e w1 ⟨rfl, g1⟩
  have b1 := Lib.hid (BX.out.kept g1)
  obtain ⟨c0, c1, c2, _⟩ := b1.out.facts
  have G1 := Lib.hid (HG.out.trans (g1.mono (by simp)))
  clear g1
  go_wp2_with fail
  refine (pbbytes_eq (b := (o, q, l)) HR.out _ (HV.out.below G1.out) hl).mono ?_
  rintro e w2 ⟨rfl, g2⟩
  have b2 := Lib.hid (b1.out.kept g2)
  obtain ⟨d0, d1, d2, _⟩ := b2.out.facts
  have G2 := Lib.hid (grow_trans G1.out g2)
  clear g2 c0 c1 c2
  go_wp2_with fail
  refine (pbmay_eq (b := (o, q, l)) HM.out _ (HV.out.below G2.out) hl).mono ?_
  rintro e w3 ⟨rfl, g3⟩
  have G3 := Lib.hid (grow_trans G2.out g3)
  clear g3
  go_wp2
  go_ret
  exact ⟨rfl, G3.out⟩

set_option maxHeartbeats 2000000 in
theorem batchBack_neg (b : Bt.Bat) (v : Value) (c : Int) (hc : c < 0) (W : World) (hv : TxAt W v b.2.2) (hm : Bt.may b = true) :
    Calls Try.prog 5 #[batV b.1 b.2.1 v, .int .i64 c] W fun e W' => e = .returned (.bool true) ∧ Below W.heap.size W W' := by
  have HR := Lib.hid (Bt.bytesR_ok hm)
  have HT := Lib.hid (Bt.back b hm)
  have HT0 := Lib.hid (Bt.longer b [0] hm (by simp))
  have hll : b.2.2.length ≤ 4 := ((Bt.may_iff b).1 hm).2.2.2.2.2.1
  have hsl := Bt.bytes_len b hm
  have hcut := fun k h => Bt.cut b k hm h
  have HV := Lib.hid hv
  obtain ⟨o, q, l⟩ := b
  generalize Bt.bytes (o, q, l) = s at *
  obtain ⟨av, cv, rfl⟩ := hv.len
  simp only [] at HV hll
  have BX := Lib.hid (BBox.new W o q (.slice av l.length cv))
  have HG := Lib.hid (show Below W.heap.size W (W.alloc (.cells #[.int .i64 o, .int .i64 q, .slice av l.length cv] 25)) from (Below.refl _ _).alloc (Nat.le_refl _) _)
  have t1 : decide (c < 0) = true := decide_eq_true hc
  clear hc
  clear hv hm hcut
  simp only [batV]
  go_enter Try.func5, Try.ntmps5
  go_wp2_with fail
  refine (batShown _).mono ?_
  rintro e w1 ⟨rfl, g1⟩
  have b1 := Lib.hid (BX.out.kept g1)
  obtain ⟨c0, c1, c2, _⟩ := b1.out.facts
  have G1 := Lib.hid (HG.out.trans (g1.mono (by simp)))
  clear g1
  go_wp2_with fail
  refine (pbbytes_eq (b := (o, q, l)) HR.out _ (HV.out.below G1.out) (by simp only []; omega)).mono ?_
  rintro e w2 ⟨rfl, g2⟩
  have b2 := Lib.hid (b1.out.kept g2)
  have G2 := Lib.hid (grow_trans G1.out g2)
  clear g2 c0 c1 c2 b1
  go_wp2_with fail
  refine (pbtake_eq HT.out (by omega) _).mono ?_
  rintro e w3 ⟨va, rfl, ta, g3⟩
  obtain ⟨aa, ca, rfl⟩ := ta.len
  have b3 := Lib.hid ((b2.out.kept g3).alloc (.cells #[.int .i64 o, .int .i64 q, .slice aa l.length ca] 25))
  obtain ⟨c0, c1, c2, _⟩ := b3.out.facts
  have G3 := Lib.hid ((grow_trans G2.out g3).alloc (grow_trans G2.out g3).size (.cells #[.int .i64 o, .int .i64 q, .slice aa l.length ca] 25))
  have TA := Lib.hid (ta.below ((Below.refl _ _).alloc (Nat.le_refl _) (.cells #[.int .i64 o, .int .i64 q, .slice aa l.length ca] 25)))
  clear g3 ta b2
  go_wp2_with fail
  refine (rbsame_eq (a := (o, q, l)) (b := (o, q, l)) (beq_self_eq_true _) _ TA.out (HV.out.below G3.out) (by simp only []; omega)).mono ?_
  rintro e w4 ⟨rfl, g4⟩
  have G4 := Lib.hid (grow_trans G3.out g4)
  clear g4 c0 c1 c2 b3
  go_wp2_with fail
  refine (pbtake_eq HT0.out (by simp; omega) _).mono ?_
  rintro e w5 ⟨vb, rfl, tb, g5⟩
  obtain ⟨ab, cb, rfl⟩ := tb.len
  have G5 := Lib.hid ((grow_trans G4.out g5).alloc (grow_trans G4.out g5).size (.cells #[.int .i64 0, .int .i64 0, .slice ab 0 cb] 25))
  clear g5 tb
  go_wp2
  go_ret
  exact ⟨rfl, G5.out⟩

set_option maxHeartbeats 2000000 in
theorem batchBack_far (b : Bt.Bat) (v : Value) (k : Nat) (c : Int) (hc : c = k) (hk : (Bt.bytes b).length ≤ k) (W : World) (hv : TxAt W v b.2.2) (hm : Bt.may b = true) :
    Calls Try.prog 5 #[batV b.1 b.2.1 v, .int .i64 c] W fun e W' => e = .returned (.bool true) ∧ Below W.heap.size W W' := by
  have HR := Lib.hid (Bt.bytesR_ok hm)
  have HT := Lib.hid (Bt.back b hm)
  have HT0 := Lib.hid (Bt.longer b [0] hm (by simp))
  have hll : b.2.2.length ≤ 4 := ((Bt.may_iff b).1 hm).2.2.2.2.2.1
  have hsl := Bt.bytes_len b hm
  have hcut := fun k h => Bt.cut b k hm h
  have HV := Lib.hid hv
  obtain ⟨o, q, l⟩ := b
  generalize Bt.bytes (o, q, l) = s at *
  obtain ⟨av, cv, rfl⟩ := hv.len
  simp only [] at HV hll
  have BX := Lib.hid (BBox.new W o q (.slice av l.length cv))
  have HG := Lib.hid (show Below W.heap.size W (W.alloc (.cells #[.int .i64 o, .int .i64 q, .slice av l.length cv] 25)) from (Below.refl _ _).alloc (Nat.le_refl _) _)
  subst hc
  have t1 : decide ((k : Int) < 0) = false := decide_eq_false (by omega)
  clear hv hm hcut
  simp only [batV]
  go_enter Try.func5, Try.ntmps5
  go_wp2_with fail
  refine (batShown _).mono ?_
  rintro e w1 ⟨rfl, g1⟩
  have b1 := Lib.hid (BX.out.kept g1)
  obtain ⟨c0, c1, c2, _⟩ := b1.out.facts
  have G1 := Lib.hid (HG.out.trans (g1.mono (by simp)))
  clear g1
  go_wp2_with fail
  refine (pbbytes_eq (b := (o, q, l)) HR.out _ (HV.out.below G1.out) (by simp only []; omega)).mono ?_
  rintro e w2 ⟨rfl, g2⟩
  have b2 := Lib.hid (b1.out.kept g2)
  have G2 := Lib.hid (grow_trans G1.out g2)
  clear g2 c0 c1 c2 b1
  go_wp2_with fail
  refine (pbtake_eq HT.out (by omega) _).mono ?_
  rintro e w3 ⟨va, rfl, ta, g3⟩
  obtain ⟨aa, ca, rfl⟩ := ta.len
  have b3 := Lib.hid ((b2.out.kept g3).alloc (.cells #[.int .i64 o, .int .i64 q, .slice aa l.length ca] 25))
  obtain ⟨c0, c1, c2, _⟩ := b3.out.facts
  have G3 := Lib.hid ((grow_trans G2.out g3).alloc (grow_trans G2.out g3).size (.cells #[.int .i64 o, .int .i64 q, .slice aa l.length ca] 25))
  have TA := Lib.hid (ta.below ((Below.refl _ _).alloc (Nat.le_refl _) (.cells #[.int .i64 o, .int .i64 q, .slice aa l.length ca] 25)))
  clear g3 ta b2
  go_wp2_with fail
  refine (rbsame_eq (a := (o, q, l)) (b := (o, q, l)) (beq_self_eq_true _) _ TA.out (HV.out.below G3.out) (by simp only []; omega)).mono ?_
  rintro e w4 ⟨rfl, g4⟩
  have G4 := Lib.hid (grow_trans G3.out g4)
  clear g4 c0 c1 c2 b3
  go_wp2_with fail
  refine (pbtake_eq HT0.out (by simp; omega) _).mono ?_
  rintro e w5 ⟨vb, rfl, tb, g5⟩
  obtain ⟨ab, cb, rfl⟩ := tb.len
  have G5 := Lib.hid ((grow_trans G4.out g5).alloc (grow_trans G4.out g5).size (.cells #[.int .i64 0, .int .i64 0, .slice ab 0 cb] 25))
  clear g5 tb
  go_wp2
  go_ret
  exact ⟨rfl, G5.out⟩

set_option maxHeartbeats 2000000 in
theorem batchBack_cut (b : Bt.Bat) (v : Value) (k : Nat) (c : Int) (hc : c = k) (hk : k < (Bt.bytes b).length) (W : World) (hv : TxAt W v b.2.2) (hm : Bt.may b = true) :
    Calls Try.prog 5 #[batV b.1 b.2.1 v, .int .i64 c] W fun e W' => e = .returned (.bool true) ∧ Below W.heap.size W W' := by
  have HR := Lib.hid (Bt.bytesR_ok hm)
  have HT := Lib.hid (Bt.back b hm)
  have HT0 := Lib.hid (Bt.longer b [0] hm (by simp))
  have hll : b.2.2.length ≤ 4 := ((Bt.may_iff b).1 hm).2.2.2.2.2.1
  have hsl := Bt.bytes_len b hm
  have hcut := fun k h => Bt.cut b k hm h
  have HV := Lib.hid hv
  obtain ⟨o, q, l⟩ := b
  generalize Bt.bytes (o, q, l) = s at *
  obtain ⟨av, cv, rfl⟩ := hv.len
  simp only [] at HV hll
  have BX := Lib.hid (BBox.new W o q (.slice av l.length cv))
  have HG := Lib.hid (show Below W.heap.size W (W.alloc (.cells #[.int .i64 o, .int .i64 q, .slice av l.length cv] 25)) from (Below.refl _ _).alloc (Nat.le_refl _) _)
  subst hc
  have HC := Lib.hid (hcut k hk)
  clear hv hm hcut
  simp only [batV]
  go_enter Try.func5, Try.ntmps5
  go_wp2_with fail
  refine (batShown _).mono ?_
  rintro e w1 ⟨rfl, g1⟩
  have b1 := Lib.hid (BX.out.kept g1)
  obtain ⟨c0, c1, c2, _⟩ := b1.out.facts
  have G1 := Lib.hid (HG.out.trans (g1.mono (by simp)))
  clear g1
  go_wp2_with fail
  refine (pbbytes_eq (b := (o, q, l)) HR.out _ (HV.out.below G1.out) (by simp only []; omega)).mono ?_
  rintro e w2 ⟨rfl, g2⟩
  have b2 := Lib.hid (b1.out.kept g2)
  have G2 := Lib.hid (grow_trans G1.out g2)
  clear g2 c0 c1 c2 b1
  go_wp2_with fail
  refine (pbtake_eq HT.out (by omega) _).mono ?_
  rintro e w3 ⟨va, rfl, ta, g3⟩
  obtain ⟨aa, ca, rfl⟩ := ta.len
  have b3 := Lib.hid ((b2.out.kept g3).alloc (.cells #[.int .i64 o, .int .i64 q, .slice aa l.length ca] 25))
  obtain ⟨c0, c1, c2, _⟩ := b3.out.facts
  have G3 := Lib.hid ((grow_trans G2.out g3).alloc (grow_trans G2.out g3).size (.cells #[.int .i64 o, .int .i64 q, .slice aa l.length ca] 25))
  have TA := Lib.hid (ta.below ((Below.refl _ _).alloc (Nat.le_refl _) (.cells #[.int .i64 o, .int .i64 q, .slice aa l.length ca] 25)))
  clear g3 ta b2
  go_wp2_with fail
  refine (rbsame_eq (a := (o, q, l)) (b := (o, q, l)) (beq_self_eq_true _) _ TA.out (HV.out.below G3.out) (by simp only []; omega)).mono ?_
  rintro e w4 ⟨rfl, g4⟩
  have G4 := Lib.hid (grow_trans G3.out g4)
  clear g4 c0 c1 c2 b3
  go_wp2_with fail
  refine (pbtake_eq HT0.out (by simp; omega) _).mono ?_
  rintro e w5 ⟨vb, rfl, tb, g5⟩
  obtain ⟨ab, cb, rfl⟩ := tb.len
  have G5 := Lib.hid ((grow_trans G4.out g5).alloc (grow_trans G4.out g5).size (.cells #[.int .i64 0, .int .i64 0, .slice ab 0 cb] 25))
  clear g5 tb
  go_wp2_with fail
  rw [ba_take]
  refine (pbtake_eq HC.out (by simp; omega) _).mono ?_
  rintro e w6 ⟨vd, rfl, td, g6⟩
  obtain ⟨ad, cd, rfl⟩ := td.len
  have G6 := Lib.hid ((grow_trans G5.out g6).alloc (grow_trans G5.out g6).size (.cells #[.int .i64 0, .int .i64 0, .slice ad 0 cd] 25))
  clear g6 td
  go_wp2
  go_ret
  exact ⟨rfl, G6.out⟩

theorem batchBack_walk {H : Type} (enc : TypeId × Value → H) (W : World) (base : Nat) (v0 : Value) (v1 : Value) (d0 : DataW H) (d1 : DataW H) (p0 : List MemPlace) (p1 : List MemPlace)
    (h0 : DataW.Trod enc Try.prog W 0 (fun _ => true) true 25 v0 d0 p0) (o0 : Value.okWide Try.prog W .any base 25 v0)
    (h1 : DataW.Trod enc Try.prog W 0 (fun _ => true) true 3 v1 d1 p1) (o1 : Value.okWide Try.prog W .any base 3 v1)
    (hsz : (DataW.weightsEach Try.prog [25, 3] [d0, d1]).all (· ≤ reachBytes) = true) :
    Calls Try.prog 5 #[v0, v1] W fun e W' => e = .returned (.bool true) ∧ Below W.heap.size W W' := by
  obtain ⟨a, va, rfl, ha, la, _⟩ := open_bat o0 h0 (sized_at hsz (j := 0) rfl rfl)
  obtain ⟨c, _, _, rfl, rfl, rfl⟩ := open_i64 Try.underlying3 o1 h1
  cases hm : Bt.may a with
  | false => exact batchBack_no a va c W ha (by omega) hm
  | true =>
    by_cases hc : c < 0
    · exact batchBack_neg a va c hc W ha hm
    · obtain ⟨k, rfl⟩ := Int.eq_ofNat_of_zero_le (show 0 ≤ c by omega)
      by_cases hk : k < (Bt.bytes a).length
      · exact batchBack_cut a va k k rfl hk W ha hm
      · exact batchBack_far a va k k rfl (by omega) W ha hm
end Go.Proofs.Ytlejffgmaokpnaa
