/- PaperReads: the walk. -/
import Derived.Test.YtkkiedmcpibnaaaDoorPapShown
import Derived.Test.YtkkiedmcpibnaaaDoorOpenOne
namespace Go.Proofs.YtkkiedmcpibnaaaDoor
open Go.RowKit Go.ChangeShapes Go.WideShapes Go.ChangeAt
set_option maxRecDepth 100000
attribute [local go_sem] ByteArray.mk_append_mk

set_option maxHeartbeats 4000000 in
theorem paperReads_core (r s : List UInt8) (W : World) (hr : r.length ≤ 140737488351232) (hs : s.length ≤ 4398046511104) (hg : GW W) :
    Calls Tryd.prog 3 #[tx r, tx s] W fun e W' => e = .returned (.bool true) ∧ Below W.heap.size W W' := by
  obtain ⟨l, t, hR⟩ : ∃ l t, Pp.Rd s l t := ⟨_, _, Pp.read_rd s⟩
  have hl := Pp.rd_len hR
  obtain ⟨k, hk⟩ : ∃ k, (Pp.frs l).length = k := ⟨_, rfl⟩
  obtain ⟨⟨x, n⟩, hF⟩ : ∃ R, Pp.frameR r = R := ⟨_, rfl⟩
  have H1 := Lib.hid (fun W hW => pframe_eq hF hr W hW)
  have H2 := Lib.hid (fun W => rframe_eq hF hr W)
  have H3 := Lib.hid (fun W hW => pread_eq hR hk hs W hW)
  have H4 := Lib.hid (fun W => rread_eq hR hk hs W)
  have GG := Lib.hid hg
  clear hF hR hk hg
  go_enter Tryd.func3, Tryd.ntmps3
  go_wp2_with fail
  refine (papShown _ GG.out).mono ?_
  rintro e w1 ⟨rfl, g1⟩
  have G1 := Lib.hid g1
  clear g1
  go_wp2_with fail
  refine (H1.out _ (GG.out.below G1.out)).mono ?_
  rintro e w2 ⟨rfl, g2⟩
  have G2 := Lib.hid (grow_trans G1.out g2)
  clear g2
  go_wp2_with fail
  refine (H2.out _).mono ?_
  rintro e w3 ⟨rfl, g3⟩
  have G3 := Lib.hid (grow_trans G2.out g3)
  clear g3
  go_wp2_with fail
  refine (H3.out _ (GG.out.below G3.out)).mono ?_
  rintro e w4 ⟨va, rfl, hva, g4⟩
  have G4 := Lib.hid (grow_trans G3.out g4)
  have HVA := Lib.hid hva
  obtain ⟨m1, m2, rfl⟩ := hva.len
  clear g4 hva
  go_wp2_with fail
  refine (H4.out _).mono ?_
  rintro e w5 ⟨vb, rfl, hvb, g5⟩
  have G5 := Lib.hid (grow_trans G4.out g5)
  have HVB := Lib.hid hvb
  have HVA5 := Lib.hid (HVA.out.below g5)
  obtain ⟨m3, m4, rfl⟩ := hvb.len
  clear g5 hvb
  go_wp2_with fail
  refine (same_eqP (beq_self_eq_true l) _ HVA5.out HVB.out (by omega)).mono ?_
  rintro e w6 ⟨rfl, q, rfl⟩
  go_wp2
  go_ret
  exact ⟨rfl, below_drewN G5.out q⟩

theorem paperReads_walk {H : Type} (enc : TypeId × Value → H) (W : World) (base : Nat) (v0 : Value) (v1 : Value) (d0 : DataW H) (d1 : DataW H) (p0 : List MemPlace) (p1 : List MemPlace)
    (h0 : DataW.Trod enc Tryd.prog W 0 (fun _ => true) true 9 v0 d0 p0) (o0 : Value.okWide Tryd.prog W .any base 9 v0)
    (h1 : DataW.Trod enc Tryd.prog W 0 (fun _ => true) true 9 v1 d1 p1) (o1 : Value.okWide Tryd.prog W .any base 9 v1)
    (_hsz : (DataW.weightsEach Tryd.prog [9, 9] [d0, d1]).all (· ≤ reachBytes) = true) (hk : Rows.uptoSmall H [d0, d1] = true) (hg : GW W) :
    Calls Tryd.prog 3 #[v0, v1] W fun e W' => e = .returned (.bool true) ∧ Below W.heap.size W W' := by
  obtain ⟨r, rfl, rfl, rfl⟩ := open_tx Tryd.underlying9 o0 h0
  obtain ⟨s, rfl, rfl, rfl⟩ := open_tx Tryd.underlying9 o1 h1
  have hb : r.length ≤ 4294967296 ∧ s.length ≤ 4294967296 := by
    have hb : Rows.uptoBulkAll [DataW.lit (.string r), DataW.lit (.string s)] ≤ 1048576 := of_decide_eq_true hk
    simp only [Rows.uptoBulkAll, Rows.uptoBulk] at hb
    omega
  exact paperReads_core r s W (by omega) (by omega) hg
end Go.Proofs.YtkkiedmcpibnaaaDoor
