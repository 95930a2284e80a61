/- VoteGives: the walk. -/
import Derived.Test.YtjngjmhhfhkbkaaVotIface
import Derived.Test.YtjngjmhhfhkbkaaVotOpen
namespace Go.Proofs.Ytjngjmhhfhkbkaa
open Go.RowKit Go.ChangeShapes Go.WideShapes Go.ChangeAt

set_option maxHeartbeats 4000000 in
theorem voteGives_core (v : Value) (l : List Vt.Bl) (low : Int) (s : Vt.Bl) (W : World) (hv : BalAt W v l) (hl : l.length ≤ 4398046510976) :
    Calls Try.prog 3 #[v, .int .i64 low, bval s] W fun e W' => e = .returned (.bool true) ∧ Below W.heap.size W W' := by
  obtain ⟨m, c, hm⟩ : ∃ m c, Vt.give l low s = (m, c) := ⟨_, _, rfl⟩
  obtain ⟨f, hf⟩ : ∃ f, Vt.floor l low = f := ⟨_, rfl⟩
  have hml : m.length ≤ l.length + 1 := by have := give_len l low s; rw [hm] at this; exact this
  have hfl : f.length ≤ l.length := by rw [← hf]; exact floor_len l low
  have HM := Lib.hid hm
  have HF := Lib.hid hf
  have HV := Lib.hid hv
  clear hm hf hv
  obtain ⟨x, r, t⟩ := s
  have g0 : Below W.heap.size W (W.alloc (.cells #[.int .i64 x, .int .i64 r, tx t] 24)) := (Below.refl _ _).alloc (Nat.le_refl _) _
  have Q0 := Lib.hid (show (W.alloc (.cells #[.int .i64 x, .int .i64 r, tx t] 24)).cell? ⟨W.heap.size, 0, none⟩ = some (.int .i64 x) by simp)
  have Q1 := Lib.hid (show (W.alloc (.cells #[.int .i64 x, .int .i64 r, tx t] 24)).cell? ⟨W.heap.size, 1, none⟩ = some (.int .i64 r) by simp)
  have Q2 := Lib.hid (show (W.alloc (.cells #[.int .i64 x, .int .i64 r, tx t] 24)).cell? ⟨W.heap.size, 2, none⟩ = some (tx t) by simp)
  have GR := Lib.hid g0
  clear g0
  simp only [bval, iv]
  go_enter Try.func3, Try.ntmps3
  go_wp2_with fail
  refine (vtShown _).mono ?_
  rintro e w1 ⟨rfl, h1⟩
  have r0 := below_cell h1 Q0.out
  have r1 := below_cell h1 Q1.out
  have r2 := below_cell h1 Q2.out
  have g1 := GR.out.trans (h1.mono (by simp))
  clear h1 Q0 Q1 Q2
  go_wp2_with fail
  refine (pgive_eq (s := (x, r, t)) HM.out _ (HV.out.below g1) (by omega)).mono ?_
  rintro e w2 ⟨u, rfl, hu, h2⟩
  have HU := Lib.hid hu
  replace r0 := below_cell h2 r0
  replace r1 := below_cell h2 r1
  replace r2 := below_cell h2 r2
  have g2 := grow_trans g1 h2
  clear hu h2 g1
  go_wp2_with fail
  refine (rgive_eq (s := (x, r, t)) HM.out _ (HV.out.below g2) (by omega)).mono ?_
  rintro e w3 ⟨u', rfl, hu', h3⟩
  have HU' := Lib.hid hu'
  have HU3 := Lib.hid (HU.out.below h3)
  have g3 := grow_trans g2 h3
  clear hu' h3 g2 HU r0 r1 r2
  go_wp2_with fail
  refine (rsame_eq (c := true) (by simp) _ HU3.out.flat HU'.out (by omega)).mono ?_
  rintro e w4 ⟨rfl, h4⟩
  have g4 := grow_trans g3 h4
  clear h4 g3
  go_wp2_with fail
  refine (pfloor_eq HF.out _ (HV.out.below g4) (by omega)).mono ?_
  rintro e w5 ⟨f1, rfl, hf1, h5⟩
  have HF1 := Lib.hid hf1
  have g5 := grow_trans g4 h5
  clear hf1 h5 g4
  go_wp2_with fail
  refine (rfloor_eq HF.out _ (HV.out.below g5).flat (by omega)).mono ?_
  rintro e w6 ⟨f2, rfl, hf2, h6⟩
  have HF2 := Lib.hid hf2
  have HF3 := Lib.hid (HF1.out.below h6)
  have g6 := grow_trans g5 h6
  clear hf2 h6 g5
  go_wp2_with fail
  refine (rsame_eq (c := true) (by simp) _ HF3.out.flat HF2.out (by omega)).mono ?_
  rintro e w7 ⟨rfl, h7⟩
  have g7 := grow_trans g6 h7
  go_wp2_with fail
  go_ret
  exact ⟨rfl, g7⟩

theorem voteGives_walk {H : Type} (enc : TypeId × Value → H) (W : World) (base : Nat) (v0 : Value) (v1 : Value) (v2 : Value) (d0 : DataW H) (d1 : DataW H) (d2 : DataW H) (p0 : List MemPlace) (p1 : List MemPlace) (p2 : List MemPlace)
    (h0 : DataW.Trod enc Try.prog W 0 (fun _ => true) true 22 v0 d0 p0) (o0 : Value.okWide Try.prog W .any base 22 v0)
    (h1 : DataW.Trod enc Try.prog W 0 (fun _ => true) true 3 v1 d1 p1) (o1 : Value.okWide Try.prog W .any base 3 v1)
    (h2 : DataW.Trod enc Try.prog W 0 (fun _ => true) true 24 v2 d2 p2) (o2 : Value.okWide Try.prog W .any base 24 v2)
    (hsz : (DataW.weightsEach Try.prog [22, 3, 24] [d0, d1, d2]).all (· ≤ reachBytes) = true) :
    Calls Try.prog 3 #[v0, v1, v2] W fun e W' => e = .returned (.bool true) ∧ Below W.heap.size W W' := by
  simp only [DataW.weightsEach, List.all_append, Bool.and_eq_true] at hsz
  obtain ⟨a, len, cap, rfl⟩ := okWide_slice Try.underlying22 o0
  obtain ⟨n0, e0⟩ := h0
  obtain ⟨l, hv, hl⟩ := trod_ballots e0 hsz.1
  obtain ⟨low, _, _, rfl, _, _⟩ := open_i64 Try.underlying3 o1 h1
  obtain ⟨s, rfl⟩ := open_ballot o2 h2
  exact voteGives_core _ l low s W hv hl
end Go.Proofs.Ytjngjmhhfhkbkaa
