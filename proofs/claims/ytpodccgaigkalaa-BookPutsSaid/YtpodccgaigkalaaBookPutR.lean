/- The contracts of the document's answer of layer 6: Put, where nothing comes. -/
import Derived.Test.YtpodccgaigkalaaBkGo
import Derived.Test.YtpodccgaigkalaaBkPut2
namespace Go.Proofs.Ytpodccgaigkalaa
open Go.RowKit

set_option maxHeartbeats 2000000 in
theorem rput_same (v : Value) (l : List Bk.Sl) (s : Bk.Sl) (w : World) (hv : BookAt w v l) (hl : l.length ≤ 140737488351232) (h : Bk.has l s = true ∨ (Bk.has l s = false ∧ Bk.inR s = false)) :
    Calls Try.prog 13 #[v, sv s] w fun e w' => e = .returned v ∧ Below w.heap.size w w' := by
  obtain ⟨x, t⟩ := s
  simp only [sv, iv]
  have g0 : Below w.heap.size w (w.alloc (.cells #[.int .i64 x, tx t] 24)) := (Below.refl _ _).alloc (Nat.le_refl _) _
  have q0 : (w.alloc (.cells #[.int .i64 x, tx t] 24)).cell? ⟨w.heap.size, 0, none⟩ = some (.int .i64 x) := by simp
  have HV := Lib.hid (hv.below g0)
  have Q0 := Lib.hid q0
  have GR := Lib.hid g0
  clear hv q0 g0
  rcases h with h | ⟨h, hr⟩
  · have HH := Lib.hid h
    clear h
    go_enter Try.func13, Try.ntmps13
    go_wp2_with fail
    refine (rbhas_eq (s := (x, t)) HH.out _ HV.out.flat hl).mono ?_
    rintro e w1 ⟨rfl, h1⟩
    have g1 := GR.out.trans (h1.mono (by simp))
    clear h1
    go_wp2_with fail
    go_ret
    exact ⟨rfl, g1⟩
  · have HH := Lib.hid h
    have hr' : ¬ (1 ≤ x ∧ x ≤ 64) := by simpa [Bk.inR] using hr
    clear h hr
    by_cases h1 : x < 1
    · have t1 : decide (x < 1) = true := by simpa using h1
      clear hr' h1
      go_enter Try.func13, Try.ntmps13
      go_wp2_with fail
      refine (rbhas_eq (s := (x, t)) HH.out _ HV.out.flat hl).mono ?_
      rintro e w1 ⟨rfl, h1⟩
      have r0 := below_cell h1 Q0.out
      have g1 := GR.out.trans (h1.mono (by simp))
      clear h1
      go_wp2_with fail
      go_ret
      exact ⟨rfl, g1⟩
    · have t1 : decide (x < 1) = false := by simpa using h1
      have t2 : decide (64 < x) = true := by simp; omega
      clear hr' h1
      go_enter Try.func13, Try.ntmps13
      go_wp2_with fail
      refine (rbhas_eq (s := (x, t)) HH.out _ HV.out.flat hl).mono ?_
      rintro e w1 ⟨rfl, h1⟩
      have r0 := below_cell h1 Q0.out
      have g1 := GR.out.trans (h1.mono (by simp))
      clear h1
      go_wp2_with fail
      go_ret
      exact ⟨rfl, g1⟩
end Go.Proofs.Ytpodccgaigkalaa
