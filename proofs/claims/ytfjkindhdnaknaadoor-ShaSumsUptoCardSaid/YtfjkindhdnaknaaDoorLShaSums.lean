/- ShaSums: the walk. -/
import Derived.Test.YtfjkindhdnaknaaDoorShaShown
import Derived.Test.YtfjkindhdnaknaaDoorShaRHex
import Derived.Test.YtfjkindhdnaknaaDoorOpen
namespace Go.Proofs.YtfjkindhdnaknaaDoor
open Go.RowKit Go.ChangeShapes Go.WideShapes Go.ChangeAt
theorem rsum_eq {s r : List UInt8} (h : Sh.sum s = r) (hs : s.length ≤ 140737488351232) (w : World) :
    Calls Tryd.prog 21 #[tx s] w fun e w' => e = .returned (tx r) ∧ Below w.heap.size w w' := by subst h; exact rsum s hs w
theorem rhex_eq {s r : List UInt8} (h : Sh.hex s = r) (hs : s.length ≤ 70368744177000) (w : World) :
    Calls Tryd.prog 23 #[tx s] w fun e w' => e = .returned (tx r) ∧ Below w.heap.size w w' := by subst h; exact rhex s hs w

set_option maxHeartbeats 1000000 in
theorem shaSums_core (a : List UInt8) (W : World) (ha : a.length ≤ 70368744177000) (hg : GW W) :
    Calls Tryd.prog 6 #[tx a] W fun e W' => e = .returned (.bool true) ∧ Below W.heap.size W W' := by
  obtain ⟨x, hx⟩ : ∃ x, Sh.sum a = x := ⟨_, rfl⟩
  obtain ⟨y, hy⟩ : ∃ y, Sh.hex a = y := ⟨_, rfl⟩
  have H1 := Lib.hid (shaShown W hg)
  have H2 := Lib.hid (fun W hw => psum_eq hx (by omega) W hw)
  have H3 := Lib.hid (fun W => rsum_eq hx (by omega) W)
  have H4 := Lib.hid (fun W => phex_eq hy (by omega) W)
  have H5 := Lib.hid (fun W => rhex_eq hy ha W)
  have HGW := Lib.hid hg
  clear hx hy hg
  go_enter Tryd.func6, Tryd.ntmps6
  go_wp2_with fail
  refine H1.out.mono ?_
  rintro e w1 ⟨rfl, g1⟩
  go_wp2_with fail
  refine (H2.out _ (HGW.out.below g1)).mono ?_
  rintro e w2 ⟨rfl, g2⟩
  go_wp2_with fail
  refine (H3.out _).mono ?_
  rintro e w3 ⟨rfl, g3⟩
  go_wp2_with fail
  refine (H4.out _).mono ?_
  rintro e w4 ⟨rfl, g4⟩
  go_wp2_with fail
  refine (H5.out _).mono ?_
  rintro e w5 ⟨rfl, g5⟩
  have HG := Lib.hid (grow_trans (grow_trans (grow_trans (grow_trans g1 g2) g3) g4) g5)
  clear g1 g2 g3 g4 g5
  go_wp2
  go_ret
  exact ⟨rfl, HG.out⟩

theorem shaSums_walk {H : Type} (enc : TypeId × Value → H) (W : World) (base : Nat) (v0 : Value) (d0 : DataW H) (p0 : List MemPlace)
    (h0 : DataW.Trod enc Tryd.prog W 0 (fun _ => true) true 9 v0 d0 p0) (o0 : Value.okWide Tryd.prog W .any base 9 v0)
    (_hsz : (DataW.weightsEach Tryd.prog [9] [d0]).all (· ≤ reachBytes) = true) (hk : Rows.uptoSmall H [d0] = true) (hg : GW W) :
    Calls Tryd.prog 6 #[v0] W fun e W' => e = .returned (.bool true) ∧ Below W.heap.size W W' := by
  obtain ⟨a, rfl, rfl, rfl⟩ := open_tx Tryd.underlying9 o0 h0
  have hb : Rows.uptoBulkAll [DataW.lit (.string a)] ≤ 1048576 := of_decide_eq_true hk
  simp only [Rows.uptoBulkAll, Rows.uptoBulk] at hb
  exact shaSums_core a W (by omega) hg
end Go.Proofs.YtfjkindhdnaknaaDoor
