/- VoteFinds: the walk. -/
import Derived.Test.YtjngjmhhfhkbkaaVotIface
import Derived.Test.YtjngjmhhfhkbkaaVotOpen
namespace Go.Proofs.Ytjngjmhhfhkbkaa
open Go.RowKit Go.ChangeShapes Go.WideShapes Go.ChangeAt

set_option maxHeartbeats 4000000 in
theorem voteFinds_core (v : Value) (l : List Vt.Bl) (a r : Int) (W : World) (hv : BalAt W v l) (hl : l.length ≤ 4398046510976) :
    Calls Try.prog 4 #[v, .int .i64 a, .int .i64 r] W fun e W' => e = .returned (.bool true) ∧ Below W.heap.size W W' := by
  obtain ⟨t, c, hm⟩ : ∃ t c, Vt.found l a r = (t, c) := ⟨_, _, rfl⟩
  obtain ⟨q, hq⟩ : ∃ q, Vt.right l = q := ⟨_, rfl⟩
  have HM := Lib.hid hm
  have HQ := Lib.hid hq
  have HV := Lib.hid hv
  clear hm hq hv
  go_enter Try.func4, Try.ntmps4
  go_wp2_with fail
  refine (vtShown _).mono ?_
  rintro e w1 ⟨rfl, g1⟩
  go_wp2_with fail
  refine (pfind_eq HM.out _ (HV.out.below g1).flat (by omega)).mono ?_
  rintro e w2 ⟨rfl, h2⟩
  have g2 := grow_trans g1 h2
  clear h2 g1
  go_wp2_with fail
  refine (rfind_eq HM.out _ (HV.out.below g2).flat (by omega)).mono ?_
  rintro e w3 ⟨rfl, h3⟩
  have g3 := grow_trans g2 h3
  clear h3 g2
  go_wp2_with fail
  refine (pright_eq HQ.out _ (HV.out.below g3).flat (by omega)).mono ?_
  rintro e w4 ⟨rfl, h4⟩
  have g4 := grow_trans g3 h4
  clear h4 g3
  go_wp2_with fail
  refine (rright_eq HQ.out _ (HV.out.below g4).flat (by omega)).mono ?_
  rintro e w5 ⟨rfl, h5⟩
  have g5 := grow_trans g4 h5
  clear h5 g4
  go_wp2_with fail
  go_ret
  exact ⟨by simp, g5⟩

theorem voteFinds_walk {H : Type} (enc : TypeId × Value → H) (W : World) (base : Nat) (v0 : Value) (v1 : Value) (v2 : Value) (d0 : DataW H) (d1 : DataW H) (d2 : DataW H) (p0 : List MemPlace) (p1 : List MemPlace) (p2 : List MemPlace)
    (h0 : DataW.Trod enc Try.prog W 0 (fun _ => true) true 22 v0 d0 p0) (o0 : Value.okWide Try.prog W .any base 22 v0)
    (h1 : DataW.Trod enc Try.prog W 0 (fun _ => true) true 3 v1 d1 p1) (o1 : Value.okWide Try.prog W .any base 3 v1)
    (h2 : DataW.Trod enc Try.prog W 0 (fun _ => true) true 3 v2 d2 p2) (o2 : Value.okWide Try.prog W .any base 3 v2)
    (hsz : (DataW.weightsEach Try.prog [22, 3, 3] [d0, d1, d2]).all (· ≤ reachBytes) = true) :
    Calls Try.prog 4 #[v0, v1, v2] W fun e W' => e = .returned (.bool true) ∧ Below W.heap.size W W' := by
  simp only [DataW.weightsEach, List.all_append, Bool.and_eq_true] at hsz
  obtain ⟨a, len, cap, rfl⟩ := okWide_slice Try.underlying22 o0
  obtain ⟨n0, e0⟩ := h0
  obtain ⟨l, hv, hl⟩ := trod_ballots e0 hsz.1
  obtain ⟨x, _, _, rfl, _, _⟩ := open_i64 Try.underlying3 o1 h1
  obtain ⟨y, _, _, rfl, _, _⟩ := open_i64 Try.underlying3 o2 h2
  exact voteFinds_core _ l x y W hv hl
end Go.Proofs.Ytjngjmhhfhkbkaa
