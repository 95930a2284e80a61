/- BatchTakes: the walk. -/
import Derived.Test.YtlejffgmaokpnaaBatOpen
namespace Go.Proofs.Ytlejffgmaokpnaa
open Go.RowKit Go.ChangeShapes Go.WideShapes Go.ChangeAt

theorem tk_len (s : List UInt8) : (Bt.take s).1.2.2.length ≤ 140737488351232 := by
  rcases Bt.take_or s with e | ⟨b, e, hm, _⟩
  · rw [e]; simp [Bt.none]
  · rw [e]; have := (Bt.may_iff b).1 hm; simp only []; omega

set_option maxHeartbeats 1000000 in
theorem batchTakes_core (s : List UInt8) (W : World) (hs : s.length ≤ 140737488351232) :
    Calls Try.prog 3 #[tx s] W fun e W' => e = .returned (.bool true) ∧ Below W.heap.size W W' := by
  have hl := tk_len s
  obtain ⟨⟨⟨o, q, l⟩, x⟩, hR⟩ : ∃ R, Bt.take s = R := ⟨_, rfl⟩
  rw [hR] at hl
  simp only [] at hl
  have HR := Lib.hid hR
  clear hR
  go_enter Try.func3, Try.ntmps3
  go_wp2_with fail
  refine (batShown _).mono ?_
  rintro e w1 ⟨rfl, g1⟩
  go_wp2_with fail
  refine (pbtake_eq HR.out hs _).mono ?_
  rintro e w2 ⟨va, rfl, ta, h2⟩
  obtain ⟨aa, ca, rfl⟩ := ta.len
  have G2 := Lib.hid (grow_trans g1 h2)
  have TA := Lib.hid ta
  clear ta g1 h2
  go_wp2_with fail
  refine (rbtake_eq HR.out hs _).mono ?_
  rintro e w3 ⟨vb, rfl, tb, h3⟩
  obtain ⟨ab, cb, rfl⟩ := tb.len
  have bx := (BBox.new w2 o q (.slice aa l.length ca)).kept h3
  obtain ⟨c0, c1, c2, _⟩ := (bx.alloc (.cells #[.int .i64 o, .int .i64 q, .slice ab l.length cb] 25)).facts
  have G3 := Lib.hid ((G2.out.alloc G2.out.size (.cells #[.int .i64 o, .int .i64 q, .slice aa l.length ca] 25)).trans (h3.mono (Nat.le_trans G2.out.size (by simp))))
  have TA3 := Lib.hid (TA.out.below (((Below.refl _ _).alloc (Nat.le_refl _) _).trans (h3.mono (by simp))))
  have TB := Lib.hid tb
  clear bx h3 tb
  go_wp2_with fail
  refine (rbsame_eq (a := (o, q, l)) (b := (o, q, l)) (beq_self_eq_true _) _ (TA3.out.below ((Below.refl _ _).alloc (Nat.le_refl _) _)) (TB.out.below ((Below.refl _ _).alloc (Nat.le_refl _) _)) hl).mono ?_
  rintro e w4 ⟨rfl, h4⟩
  have G4 := Lib.hid ((G3.out.alloc G3.out.size (.cells #[.int .i64 o, .int .i64 q, .slice ab l.length cb] 25)).trans (h4.mono (Nat.le_trans G3.out.size (by simp))))
  clear h4
  go_wp2
  go_ret
  exact ⟨rfl, G4.out⟩

theorem batchTakes_walk {H : Type} (enc : TypeId × Value → H) (W : World) (base : Nat) (v0 : Value) (d0 : DataW H) (p0 : List MemPlace)
    (h0 : DataW.Trod enc Try.prog W 0 (fun _ => true) true 9 v0 d0 p0) (o0 : Value.okWide Try.prog W .any base 9 v0)
    (hsz : (DataW.weightsEach Try.prog [9] [d0]).all (· ≤ reachBytes) = true) :
    Calls Try.prog 3 #[v0] W fun e W' => e = .returned (.bool true) ∧ Below W.heap.size W W' := by
  obtain ⟨l, rfl, rfl, rfl⟩ := open_tx Try.underlying9 o0 h0
  exact batchTakes_core l W (sized_string hsz (j := 0) rfl rfl)
end Go.Proofs.Ytlejffgmaokpnaa
