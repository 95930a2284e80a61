/- BookTwice: the walk. -/
import Derived.Test.YtpodccgaigkalaaBkIface
import Derived.Test.YtpodccgaigkalaaOpenSeals
import Derived.Test.YtpodccgaigkalaaOpenSl
namespace Go.Proofs.Ytpodccgaigkalaa
open Go.RowKit Go.ChangeShapes Go.WideShapes Go.ChangeAt

set_option maxHeartbeats 2000000 in
theorem bookTwice_core (v : Value) (l : List Bk.Sl) (s : Bk.Sl) (W : World) (hv : BookAt W v l) (hl : l.length ≤ 5864062014634) :
    Calls Try.prog 9 #[v, sv s] W fun e W' => e = .returned (.bool true) ∧ Below W.heap.size W W' := by
  obtain ⟨m, hm⟩ : ∃ m, Bk.put l s = m := ⟨_, rfl⟩
  have hmm : Bk.put m s = m := by rw [← hm]; exact Bk.put_twice l s
  have hlen : m.length ≤ l.length + 1 := by rw [← hm, Bk.put_len]; split <;> omega
  have hle : decide ((m.length : Int) ≤ (l.length : Int) + 1) = true := by rw [decide_eq_true_iff]; omega
  have HM := Lib.hid hm
  have HMM := Lib.hid hmm
  have HV := Lib.hid hv
  obtain ⟨a0, cap0, rfl⟩ := hv.len
  have g0 : Below W.heap.size W (W.alloc (.cells #[iv s.1, tx s.2] 24)) := (Below.refl _ _).alloc (Nat.le_refl _) _
  have q0 : (W.alloc (.cells #[iv s.1, tx s.2] 24)).cell? ⟨W.heap.size, 0, none⟩ = some (iv s.1) := by simp
  have q1 : (W.alloc (.cells #[iv s.1, tx s.2] 24)).cell? ⟨W.heap.size, 1, none⟩ = some (tx s.2) := by simp
  have Q0 := Lib.hid q0
  have Q1 := Lib.hid q1
  have GR := Lib.hid g0
  clear hm hmm hv q0 q1 g0
  go_enter Try.func9, Try.ntmps9
  go_wp2_with fail
  refine (bkShown _).mono ?_
  rintro e w1 ⟨rfl, h1⟩
  have r0 := below_cell h1 Q0.out
  have r1 := below_cell h1 Q1.out
  have g1 := GR.out.trans (h1.mono (by simp))
  clear h1
  go_wp2_with fail
  refine (pput_eq HM.out _ (HV.out.below g1) (by omega)).mono ?_
  rintro e w2 ⟨u, rfl, hu, h2⟩
  obtain ⟨a1, cap1, rfl⟩ := hu.len
  have HU := Lib.hid hu
  have t0 := below_cell h2 r0
  have t1 := below_cell h2 r1
  have g2 := grow_trans g1 h2
  clear hu r0 r1 h2
  go_wp2_with fail
  refine (pput_eq HMM.out _ HU.out (by omega)).mono ?_
  rintro e w3 ⟨u, rfl, hu, h3⟩
  obtain ⟨a2, cap2, rfl⟩ := hu.len
  have g3 := grow_trans g2 h3
  clear hu h3 t0 t1
  go_wp2_with fail
  go_ret
  exact ⟨rfl, g3⟩

theorem bookTwice_walk {H : Type} (enc : TypeId × Value → H) (W : World) (base : Nat) (v0 : Value) (v1 : Value) (d0 : DataW H) (d1 : DataW H) (p0 : List MemPlace) (p1 : List MemPlace)
    (h0 : DataW.Trod enc Try.prog W 0 (fun _ => true) true 22 v0 d0 p0) (o0 : Value.okWide Try.prog W .any base 22 v0)
    (h1 : DataW.Trod enc Try.prog W 0 (fun _ => true) true 24 v1 d1 p1) (o1 : Value.okWide Try.prog W .any base 24 v1)
    (hsz : (DataW.weightsEach Try.prog [22, 24] [d0, d1]).all (· ≤ reachBytes) = true) :
    Calls Try.prog 9 #[v0, v1] W fun e W' => e = .returned (.bool true) ∧ Below W.heap.size W W' := by
  obtain ⟨a, len, cap, rfl⟩ := okWide_slice Try.underlying22 o0
  obtain ⟨n0, e0⟩ := h0
  obtain ⟨l, hv, _, hl⟩ := trod_seals Try.underlying22 e0
  obtain ⟨s, rfl⟩ := open_seal o1 h1
  simp only [DataW.weightsEach, List.all_append, Bool.and_eq_true] at hsz
  exact bookTwice_core _ l s W hv (seals_reach hl hsz.1)
end Go.Proofs.Ytpodccgaigkalaa
