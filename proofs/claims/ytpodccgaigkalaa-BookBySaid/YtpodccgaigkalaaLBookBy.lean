/- BookBy: the walk. -/
import Derived.Test.YtpodccgaigkalaaBkIface
import Derived.Test.YtpodccgaigkalaaOpenSeals
namespace Go.Proofs.Ytpodccgaigkalaa
open Go.RowKit Go.ChangeShapes Go.WideShapes Go.ChangeAt

set_option maxHeartbeats 2000000 in
theorem bookBy_core (v : Value) (l : List Bk.Sl) (x : Nat) (t : List UInt8) (W : World) (hv : BookAt W v l) (hl : l.length ≤ 5864062014634) (hx : x < 18446744073709551616) :
    Calls Try.prog 4 #[v, .int .u64 x, tx t] W fun e W' => e = .returned (.bool true) ∧ Below W.heap.size W W' := by
  obtain ⟨B, hB⟩ : ∃ x, Bk.by' l t = x := ⟨_, rfl⟩
  obtain ⟨r, hr⟩ : ∃ r, Bk.all l x t = r := ⟨_, rfl⟩
  have HB := Lib.hid hB
  have HR := Lib.hid hr
  have HV := Lib.hid hv
  clear hB hr hv
  go_enter Try.func4, Try.ntmps4
  go_wp2_with fail
  refine (bkShown _).mono ?_
  rintro e w1 ⟨rfl, g1⟩
  go_wp2_with fail
  refine (pby_eq HB.out _ (HV.out.below g1).flat (by omega)).mono ?_
  rintro e w2 ⟨rfl, h2⟩
  have g2 := grow_trans g1 h2
  go_wp2_with fail
  refine (rby_eq HB.out _ (HV.out.below g2).flat (by omega)).mono ?_
  rintro e w3 ⟨rfl, h3⟩
  have g3 := grow_trans g2 h3
  go_wp2_with fail
  refine (pall_eq HR.out _ (HV.out.below g3).flat (by omega) hx).mono ?_
  rintro e w4 ⟨rfl, h4⟩
  have g4 := grow_trans g3 h4
  go_wp2_with fail
  refine (rall_eq HR.out _ (HV.out.below g4).flat (by omega) hx).mono ?_
  rintro e w5 ⟨rfl, h5⟩
  have g5 := grow_trans g4 h5
  go_wp2_with fail
  go_ret
  exact ⟨rfl, g5⟩

theorem bookBy_walk {H : Type} (enc : TypeId × Value → H) (W : World) (base : Nat) (v0 : Value) (v1 : Value) (v2 : Value) (d0 : DataW H) (d1 : DataW H) (d2 : DataW H) (p0 : List MemPlace) (p1 : List MemPlace) (p2 : List MemPlace)
    (h0 : DataW.Trod enc Try.prog W 0 (fun _ => true) true 22 v0 d0 p0) (o0 : Value.okWide Try.prog W .any base 22 v0)
    (h1 : DataW.Trod enc Try.prog W 0 (fun _ => true) true 30 v1 d1 p1) (o1 : Value.okWide Try.prog W .any base 30 v1)
    (h2 : DataW.Trod enc Try.prog W 0 (fun _ => true) true 9 v2 d2 p2) (o2 : Value.okWide Try.prog W .any base 9 v2)
    (hsz : (DataW.weightsEach Try.prog [22, 30, 9] [d0, d1, d2]).all (· ≤ reachBytes) = true) :
    Calls Try.prog 4 #[v0, v1, v2] W fun e W' => e = .returned (.bool true) ∧ Below W.heap.size W W' := by
  obtain ⟨a, len, cap, rfl⟩ := okWide_slice Try.underlying22 o0
  obtain ⟨n0, e0⟩ := h0
  obtain ⟨l, hv, _, hl⟩ := trod_seals Try.underlying22 e0
  obtain ⟨x, hx, rfl, rfl, rfl⟩ := open_u64 Try.underlying30 o1 h1
  obtain ⟨t, rfl, rfl, rfl⟩ := open_tx Try.underlying9 o2 h2
  simp only [DataW.weightsEach, List.all_append, Bool.and_eq_true] at hsz
  exact bookBy_core _ l x t W hv (seals_reach hl hsz.1) hx
end Go.Proofs.Ytpodccgaigkalaa
