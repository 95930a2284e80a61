/- The document's example, at the head of all statements of layer 2. -/
import Derived.Test.YtfjkindhdnaknaaDoorShaHex
namespace Go.Proofs.YtfjkindhdnaknaaDoor
open Go.RowKit
theorem psum_eq {s r : List UInt8} (h : Sh.sum s = r) (hs : s.length ≤ 140737488351232) (w : World) (hw : GW w) :
    Calls Tryd.prog 20 #[tx s] w fun e w' => e = .returned (tx r) ∧ Below w.heap.size w w' := by subst h; exact psum s hs w hw
theorem phex_eq {s r : List UInt8} (h : Sh.hex s = r) (hs : s.length ≤ 70368744177664) (w : World) :
    Calls Tryd.prog 22 #[tx s] w fun e w' => e = .returned (tx r) ∧ Below w.heap.size w w' := by subst h; exact phex s hs w
theorem ppad_eq {s r : List UInt8} (h : Sh.pad s = r) (hs : s.length ≤ 140737488351232) (w : World) :
    Calls Tryd.prog 16 #[tx s] w fun e w' => e = .returned (tx r) ∧ Below w.heap.size w w' := by subst h; exact ppad s hs w

theorem sum_len (s : List UInt8) : (Sh.sum s).length = 32 := by
  obtain ⟨a, b, c, d, e, f, g, k, h⟩ := Sh.eight _ (Sh.after_len (Sh.pad s) ((Sh.pad s).length / 64))
  rw [Sh.sum, h]
  rfl

set_option maxHeartbeats 1000000 in
theorem shaShown (w : World) (hw : GW w) : Calls Tryd.prog 11 #[] w fun e w' => e = .returned (.bool true) ∧ Below w.heap.size w w' := by
  have hs := Sh.shown
  have hl := sum_len [97, 98, 99]
  obtain ⟨d, hd⟩ : ∃ d, Sh.sum [97, 98, 99] = d := ⟨_, rfl⟩
  rw [hd] at hs hl
  have H1 := Lib.hid (psum_eq hd (by simp) w hw)
  have H2 := Lib.hid (fun W => phex_eq hs (by omega) W)
  clear hs hd hw
  go_enter Tryd.func11, Tryd.ntmps11
  go_wp2_with fail
  refine H1.out.mono ?_
  rintro e w1 ⟨rfl, hb1⟩
  go_wp2_with fail
  refine (H2.out _).mono ?_
  rintro e w2 ⟨rfl, hb2⟩
  have hb := grow_trans hb1 hb2
  go_wp2
  go_ret
  exact ⟨rfl, hb⟩
end Go.Proofs.YtfjkindhdnaknaaDoor
