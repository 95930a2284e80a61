/- ShaPads: the walk. -/
import Derived.Test.YtfjkindhdnaknaaDoorShaShown
import Derived.Test.YtfjkindhdnaknaaDoorShaRPad
import Derived.Test.YtfjkindhdnaknaaDoorOpen
namespace Go.Proofs.YtfjkindhdnaknaaDoor
open Go.RowKit Go.ChangeShapes Go.WideShapes Go.ChangeAt
theorem rpad_eq {s r : List UInt8} (h : Sh.pad s = r) (hs : s.length ≤ 140737488351232) (w : World) :
    Calls Tryd.prog 17 #[tx s] w fun e w' => e = .returned (tx r) ∧ Below w.heap.size w w' := by subst h; exact rpad s hs w

set_option maxHeartbeats 1000000 in
theorem shaPads_core (a : List UInt8) (W : World) (ha : a.length ≤ 140737488351232) (hg : GW W) :
    Calls Tryd.prog 4 #[tx a] W fun e W' => e = .returned (.bool true) ∧ Below W.heap.size W W' := by
  have h64 := Sh.pad_64 a
  have hpl := Sh.pad_len a
  have hz := Sh.zeros_lt a.length
  obtain ⟨x, hx⟩ : ∃ x, Sh.pad a = x := ⟨_, rfl⟩
  rw [hx] at h64 hpl
  have H1 := Lib.hid (shaShown W hg)
  have H2 := Lib.hid (fun W => ppad_eq hx ha W)
  have H3 := Lib.hid (fun W => rpad_eq hx ha W)
  have hxl : x.length ≤ 140737488351304 := by omega
  have t1 : ((x.length : Int) % 64 == 0) = true := by rw [beq_iff_eq]; omega
  clear hx hg h64 hpl hz
  go_enter Tryd.func4, Tryd.ntmps4
  go_wp2_with fail
  refine H1.out.mono ?_
  rintro e w1 ⟨rfl, g1⟩
  go_wp2_with fail
  refine (H2.out _).mono ?_
  rintro e w2 ⟨rfl, g2⟩
  go_wp2_with fail
  refine (H3.out _).mono ?_
  rintro e w3 ⟨rfl, g3⟩
  have G := grow_trans (grow_trans g1 g2) g3
  go_wp2
  go_ret
  exact ⟨rfl, G⟩

theorem shaPads_walk {H : Type} (enc : TypeId × Value → H) (W : World) (base : Nat) (v0 : Value) (d0 : DataW H) (p0 : List MemPlace)
    (h0 : DataW.Trod enc Tryd.prog W 0 (fun _ => true) true 9 v0 d0 p0) (o0 : Value.okWide Tryd.prog W .any base 9 v0)
    (hsz : (DataW.weightsEach Tryd.prog [9] [d0]).all (· ≤ reachBytes) = true) (hg : GW W) :
    Calls Tryd.prog 4 #[v0] W fun e W' => e = .returned (.bool true) ∧ Below W.heap.size W W' := by
  obtain ⟨a, rfl, rfl, rfl⟩ := open_tx Tryd.underlying9 o0 h0
  exact shaPads_core a W (sized_string hsz (j := 0) rfl rfl) hg
end Go.Proofs.YtfjkindhdnaknaaDoor
