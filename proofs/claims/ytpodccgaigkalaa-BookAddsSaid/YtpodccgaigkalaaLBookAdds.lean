/- BookAdds: the walk. -/
import Derived.Test.YtpodccgaigkalaaBkIface
import Derived.Test.YtpodccgaigkalaaOpenSl
namespace Go.Proofs.Ytpodccgaigkalaa
open Go.RowKit Go.ChangeShapes Go.WideShapes Go.ChangeAt

set_option maxHeartbeats 4000000 in
theorem bookAdds_core (v : Value) (l : List Bk.Sl) (s : Bk.Sl) (t : List UInt8) (W : World) (hv : BookAt W v l) (hl : l.length ≤ 5864062014634) :
    Calls Try.prog 8 #[v, sv s, tx t] W fun e W' => e = .returned (.bool true) ∧ Below W.heap.size W W' := by
  obtain ⟨m, hm⟩ : ∃ m, Bk.put l s = m := ⟨_, rfl⟩
  have hlen : m.length ≤ l.length + 1 := by rw [← hm, Bk.put_len]; split <;> omega
  have hout := Bk.by_put_out l s
  have hsame := Bk.by_put_same l s
  have hother := Bk.by_put_other l s t
  rw [hm] at hout hsame hother
  obtain ⟨A, hA⟩ : ∃ A, Bk.by' l s.2 = A := ⟨_, rfl⟩
  obtain ⟨B, hB⟩ : ∃ B, Bk.by' m s.2 = B := ⟨_, rfl⟩
  obtain ⟨D, hD⟩ : ∃ D, Bk.by' l t = D := ⟨_, rfl⟩
  have hA64 : A < 18446744073709551616 := by rw [← hA]; exact Bk.byTo_lt _ _ 64 (by omega)
  have HA := Lib.hid hA
  have HB := Lib.hid hB
  have HD := Lib.hid hD
  have HM := Lib.hid hm
  have HOUT := Lib.hid hout
  have HSAME := Lib.hid hsame
  have HOTHER := Lib.hid hother
  have HV := Lib.hid hv
  clear hA hB hD hm hout hsame hother hv
  obtain ⟨z, u⟩ := s
  have g0 : Below W.heap.size W (W.alloc (.cells #[.int .i64 z, tx u] 24)) := (Below.refl _ _).alloc (Nat.le_refl _) _
  have q0 : (W.alloc (.cells #[.int .i64 z, tx u] 24)).cell? ⟨W.heap.size, 0, none⟩ = some (.int .i64 z) := by simp
  have q1 : (W.alloc (.cells #[.int .i64 z, tx u] 24)).cell? ⟨W.heap.size, 1, none⟩ = some (tx u) := by simp
  have Q0 := Lib.hid q0
  have Q1 := Lib.hid q1
  have GR := Lib.hid g0
  clear q0 q1 g0
  simp only [sv, iv]
  simp only at HA HB HD HSAME HOTHER
  go_enter Try.func8, Try.ntmps8
  go_wp2_with fail
  refine (bkShown _).mono ?_
  rintro e w1 ⟨rfl, h1⟩
  have r0 := below_cell h1 Q0.out
  have r1 := below_cell h1 Q1.out
  have g1 := GR.out.trans (h1.mono (by simp))
  clear h1 Q0 Q1
  go_wp2_with fail
  refine (pput_eq (s := (z, u)) HM.out _ (HV.out.below g1) (by omega)).mono ?_
  rintro e w2 ⟨c, rfl, hu, h2⟩
  have HU := Lib.hid hu
  replace r0 := below_cell h2 r0
  replace r1 := below_cell h2 r1
  have g2 := grow_trans g1 h2
  clear hu h2 g1
  go_wp2_with fail
  refine (pby_eq HA.out _ (HV.out.below g2).flat (by omega)).mono ?_
  rintro e w3 ⟨rfl, h3⟩
  have HU3 := Lib.hid (HU.out.below h3)
  replace r0 := below_cell h3 r0
  replace r1 := below_cell h3 r1
  have g3 := grow_trans g2 h3
  clear h3 g2 HU
  go_wp2_with fail
  refine (pby_eq HB.out _ HU3.out.flat (by omega)).mono ?_
  rintro e w4 ⟨rfl, h4⟩
  have HU4 := Lib.hid (HU3.out.below h4)
  replace r0 := below_cell h4 r0
  replace r1 := below_cell h4 r1
  have g4 := grow_trans g3 h4
  have G4 := Lib.hid g4
  clear h4 g3 g4 HU3
  by_cases hr : 1 ≤ z ∧ z ≤ 64
  · have hin : Bk.inR (z, u) = true := by simpa [Bk.inR] using hr
    have t1 : decide (z < 1) = false := by simp; omega
    have t2 : decide (64 < z) = false := by simp; omega
    obtain ⟨K, hK⟩ : ∃ K : Nat, z = (K : Int) + 1 := ⟨z.toNat - 1, by omega⟩
    have hBA : B = A ||| 2 ^ K := by
      have h := HSAME.out hin
      rw [HB.out, HA.out, show z.toNat - 1 = K by omega] at h
      exact h
    have hK63 : K ≤ 63 := by omega
    have hP : (2 : Nat) ^ K < 18446744073709551616 := by
      have : (2 : Nat) ^ K ≤ 2 ^ 63 := Nat.pow_le_pow_right (by omega) hK63
      omega
    have hor : bits .or .u64 (A : Int) ((2 ^ K : Nat) : Int) = (B : Int) := by rw [hBA]; exact u64_or_nat A (2 ^ K) hA64 hP
    have HOR := Lib.hid hor
    clear hor hBA hin hP hr
    subst hK
    go_wp2_with fail
    go_loop [11, 12] (fun o i => ∃ k : Nat, i = .int .i64 ((k : Int) + 1) ∧ k ≤ K ∧ o = .int .u64 (2 ^ k : Nat)) (fun _ i => K + 1 - (intOf i).toNat)
    case atStart => exact ⟨0, rfl, by omega, rfl⟩
    case round =>
      obtain ⟨k, rfl, hk, rfl⟩ := hrel
      by_cases hlt : k < K
      · obtain ⟨P, hP⟩ : ∃ P, 2 ^ k = P := ⟨_, rfl⟩
        obtain ⟨Q, hQ⟩ : ∃ Q, 2 ^ (k + 1) = Q := ⟨_, rfl⟩
        have hPQ : Q = P * 2 := by rw [← hP, ← hQ, Nat.pow_succ]
        have hQl : Q ≤ 9223372036854775808 := by
          have : (2 : Nat) ^ (k + 1) ≤ 2 ^ 63 := Nat.pow_le_pow_right (by omega) (by omega)
          omega
        have hw : IntKind.u64.wrap ((P : Int) * 2) = (Q : Int) := by rw [show (P : Int) * 2 = (Q : Int) by omega]; exact IntWalk.u64_in _ ⟨by omega, by omega⟩
        have hc : decide ((k : Int) + 1 < (K : Int) + 1) = true := by rw [decide_eq_true_iff]; omega
        rw [hP]
        have HQ := Lib.hid hQ
        clear hP hQ hPQ hQl
        go_wp2_with fail
        go_round
        case rel => exact ⟨k + 1, by go_num, hlt, by rw [HQ.out]⟩
        case measure => simp [intOf]; omega
      · obtain rfl : k = K := by omega
        have hc : decide ((k : Int) + 1 < (k : Int) + 1) = false := by simp
        have hor := HOR.out
        generalize 2 ^ k = P at *
        by_cases ht : t = u
        · subst ht
          go_wp2_with fail
          go_ret
          exact ⟨rfl, G4.out⟩
        · have e1 : (t == u) = false := by simpa using ht
          have hD2 := Lib.hid ((HOTHER.out ht).trans HD.out)
          go_wp2_with fail
          refine (pby_eq HD.out _ (HV.out.below G4.out).flat (by omega)).mono ?_
          rintro e w5 ⟨rfl, h5⟩
          have g5 := grow_trans G4.out h5
          go_wp2_with fail
          refine (pby_eq hD2.out _ (HU4.out.below h5).flat (by omega)).mono ?_
          rintro e w6 ⟨rfl, h6⟩
          have g6 := grow_trans g5 h6
          go_wp2_with fail
          go_ret
          exact ⟨rfl, g6⟩
  · have hin : Bk.inR (z, u) = false := by
      rw [Bk.inR, decide_eq_false_iff_not]; exact hr
    have hBA : A = B := by
      have h := HOUT.out u hin
      rw [HB.out, HA.out] at h
      exact h.symm
    subst hBA
    by_cases h1 : z < 1
    · have t1 : decide (z < 1) = true := by simpa using h1
      clear hr hin h1
      go_wp2_with fail
      go_ret
      exact ⟨rfl, G4.out⟩
    · have t1 : decide (z < 1) = false := by simpa using h1
      have t2 : decide (64 < z) = true := by simp; omega
      clear hr hin h1
      go_wp2_with fail
      go_ret
      exact ⟨rfl, G4.out⟩

theorem bookAdds_walk {H : Type} (enc : TypeId × Value → H) (W : World) (base : Nat) (v0 : Value) (v1 : Value) (v2 : Value) (d0 : DataW H) (d1 : DataW H) (d2 : DataW H) (p0 : List MemPlace) (p1 : List MemPlace) (p2 : List MemPlace)
    (h0 : DataW.Trod enc Try.prog W 0 (fun _ => true) true 22 v0 d0 p0) (o0 : Value.okWide Try.prog W .any base 22 v0)
    (h1 : DataW.Trod enc Try.prog W 0 (fun _ => true) true 24 v1 d1 p1) (o1 : Value.okWide Try.prog W .any base 24 v1)
    (h2 : DataW.Trod enc Try.prog W 0 (fun _ => true) true 9 v2 d2 p2) (o2 : Value.okWide Try.prog W .any base 9 v2)
    (hsz : (DataW.weightsEach Try.prog [22, 24, 9] [d0, d1, d2]).all (· ≤ reachBytes) = true) :
    Calls Try.prog 8 #[v0, v1, v2] W fun e W' => e = .returned (.bool true) ∧ Below W.heap.size W W' := by
  obtain ⟨a, len, cap, rfl⟩ := okWide_slice Try.underlying22 o0
  obtain ⟨n0, e0⟩ := h0
  obtain ⟨l, hv, _, hl⟩ := trod_seals Try.underlying22 e0
  obtain ⟨s, rfl⟩ := open_seal o1 h1
  obtain ⟨t, rfl, rfl, rfl⟩ := open_tx Try.underlying9 o2 h2
  simp only [DataW.weightsEach, List.all_append, Bool.and_eq_true] at hsz
  exact bookAdds_core _ l s t W hv (seals_reach hl hsz.1)
end Go.Proofs.Ytpodccgaigkalaa
