/- Package book as it landed: Put. -/
import Derived.Test.YtpodccgaigkalaaBkPut
import Derived.Deep.Onto
namespace Go.Proofs.Ytpodccgaigkalaa
open Go.RowKit

theorem bput_same (l : List Bk.Sl) (s : Bk.Sl) (h : Bk.inR s = false ∨ Bk.has l s = true) : Bk.put l s = l := by
  unfold Bk.put
  rcases h with h | h <;> simp [h]
theorem bput_new (l : List Bk.Sl) (s : Bk.Sl) (h1 : Bk.inR s = true) (h2 : Bk.has l s = false) : Bk.put l s = Bk.ins s l := by
  unfold Bk.put
  simp [h1, h2]

set_option maxHeartbeats 2000000 in
theorem pbput_same (v : Value) (l : List Bk.Sl) (s : Bk.Sl) (w : World) (hv : BookAt w v l) (hl : l.length ≤ 5864062014805) (h : Bk.inR s = false ∨ (Bk.inR s = true ∧ Bk.has l s = true)) :
    Calls Try.prog 12 #[v, sv s] w fun e w' => ∃ u, e = .returned u ∧ w'.ownsRow w.heap.size 24 2 u l.length (seals l) ∧ Below w.heap.size w w' := by
  have hm := fun W => pbmay s.1 W
  have hinR : decide (1 ≤ s.1 ∧ s.1 ≤ 64) = Bk.inR s := rfl
  rw [hinR] at hm
  have g0 : Below w.heap.size w (w.alloc (.cells #[iv s.1, tx s.2] 24)) := (Below.refl _ _).alloc (Nat.le_refl _) _
  rcases h with h | ⟨h, hh⟩
  · rw [h] at hm
    clear h
    have HV := Lib.hid (hv.below g0)
    clear hv
    go_enter Try.func12, Try.ntmps12
    go_wp2_with fail
    refine (hm _).mono ?_
    rintro e w1 ⟨rfl, rfl⟩
    go_wp2_with fail
    refine (bclone v l.length (seals l) _ HV.out.src hl).mono ?_
    rintro e w2 ⟨u, rfl, hown, hb⟩
    go_wp2
    go_ret
    refine ⟨_, rfl, ?_, g0.trans (hb.mono (by simp))⟩
    exact World.ownsRow.mono hown (by simp)
  · rw [h] at hm
    have hhas := fun W hs => pbhas v l s W hs (by omega)
    rw [hh] at hhas
    clear h hh
    have HV := Lib.hid (hv.below g0)
    clear hv
    go_enter Try.func12, Try.ntmps12
    go_wp2_with fail
    refine (hm _).mono ?_
    rintro e w1 ⟨rfl, rfl⟩
    go_wp2_with fail
    refine (hhas _ HV.out.flat).mono ?_
    rintro e w2 ⟨rfl, hb1⟩
    go_wp2_with fail
    refine (bclone v l.length (seals l) _ (HV.out.below hb1).src hl).mono ?_
    rintro e w3 ⟨u, rfl, hown, hb⟩
    go_wp2
    go_ret
    have hb2 := g0.trans ((grow_trans hb1 hb).mono (by simp))
    refine ⟨_, rfl, ?_, hb2⟩
    exact World.ownsRow.mono hown (by have := hb1.size; simp at this; omega)
end Go.Proofs.Ytpodccgaigkalaa
