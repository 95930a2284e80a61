/- PaperActs: the walk. -/
import Derived.Test.YtkkiedmcpibnaaaDoorPapEq
import Derived.Test.YtkkiedmcpibnaaaDoorKeepR
import Derived.Test.YtkkiedmcpibnaaaDoorOpenTxs2
namespace Go.Proofs.YtkkiedmcpibnaaaDoor
open Go.RowKit Go.ChangeShapes Go.WideShapes Go.ChangeAt
set_option maxRecDepth 100000
attribute [local go_sem] ByteArray.mk_append_mk
attribute [local go_sem ↓] eq_pap
attribute [local go_sem] guard_pap

set_option maxHeartbeats 8000000 in
theorem paperActs_in (a b x y x2 y2 r : List UInt8) (f z k m : Int) (o q : Bool) (ea es : Nat) (W : World) (ha : a.length ≤ 2097152) (hb : b.length ≤ 4096) (hr : r.length ≤ 140737488351232) (hf : f ≤ 9223372036854775807) (h1 : Pp.appendR (a, b, f, o) r = ((x, y, z, q), ea)) (h2 : Pp.syncR (a, b, f, o) = ((x2, y2, f, o), es)) (hg : GW W) :
    Calls Tryd.prog 4 #[.agg #[tx a, tx b, .int .i64 f, .bool o, tx r, .int .i64 k, .int .i64 m]] W fun e W' => e = .returned (.bool true) ∧ Below W.heap.size W W' := by
  obtain ⟨rs, t, hR⟩ : ∃ l t, Pp.Rd (a ++ b.take (Pp.keepN b.length k)) l t := ⟨_, _, Pp.read_rd _⟩
  obtain ⟨l, u, hL⟩ : ∃ l t, Pp.Rd (a ++ b) l t := ⟨_, _, Pp.read_rd _⟩
  obtain ⟨s, hs⟩ : ∃ s, Pp.frs rs = s := ⟨_, rfl⟩
  obtain ⟨⟨c1, c2, c3, c4⟩, hC⟩ : ∃ R, Pp.armR (a, b, f, o) m = R := ⟨_, rfl⟩
  have hLl := Pp.rd_len hL
  have hLl2 : l.length ≤ 140737488351232 := by rw [List.length_append] at hLl; omega
  have H1 := Lib.hid (fun W hW => pappend_eq h1 (by omega) hr hf W hW)
  have H2 := Lib.hid (fun W => rappend_eq h1 (by omega) hr hf W)
  have H3 := Lib.hid (fun W => psync_eq h2 (by omega) W)
  have H4 := Lib.hid (fun W => rsync_eq h2 (by omega) W)
  have H5 := Lib.hid (fun W hW => precords f o hL (by omega) W hW)
  have H6 := Lib.hid (fun W => rrecords f o hL (by omega) W)
  have H7 := Lib.hid (fun W hW => pcrash_eq (f := f) (o := o) hR hs (by omega) W hW)
  have H8 := Lib.hid (fun W => rcrash_eq (f := f) (o := o) hR hs (by omega) W)
  have H9 := Lib.hid (fun W => parm_eq hC W)
  have H10 := Lib.hid (fun W => rarm_eq hC W)
  have GG := Lib.hid hg
  have t1 : decide ((2097152 : Int) < (a.length : Int)) = false := decide_eq_false (by omega)
  have t2 : decide ((4096 : Int) < (b.length : Int)) = false := decide_eq_false (by omega)
  have i0 := (Blk.new W 36 [tx a, tx b, .int .i64 f, .bool o, tx r, .int .i64 k, .int .i64 m])
  have i1 := i0.alloc (.cells #[tx a, tx b, .int .i64 f, .bool o] 34)
  have ic0 := i0.cell 0 rfl
  have jc0 := i1.cell 0 rfl
  have ic1 := i0.cell 1 rfl
  have jc1 := i1.cell 1 rfl
  have ic2 := i0.cell 2 rfl
  have jc2 := i1.cell 2 rfl
  have ic3 := i0.cell 3 rfl
  have jc3 := i1.cell 3 rfl
  have ic4 := i0.cell 4 rfl
  have jc4 := i1.cell 4 rfl
  have ic5 := i0.cell 5 rfl
  have jc5 := i1.cell 5 rfl
  have ic6 := i0.cell 6 rfl
  have jc6 := i1.cell 6 rfl
  have A0 := Lib.hid (by have h := Blk.new (W.alloc (.cells #[tx a, tx b, .int .i64 f, .bool o, tx r, .int .i64 k, .int .i64 m] 36)) 34 [tx a, tx b, .int .i64 f, .bool o]; rwa [World.size_alloc] at h : Blk ((W.alloc (.cells #[tx a, tx b, .int .i64 f, .bool o, tx r, .int .i64 k, .int .i64 m] 36)).alloc (.cells #[tx a, tx b, .int .i64 f, .bool o] 34)) (W.heap.size + 1) 34 [tx a, tx b, .int .i64 f, .bool o])
  have G0 := Lib.hid (show Below W.heap.size W ((W.alloc (.cells #[tx a, tx b, .int .i64 f, .bool o, tx r, .int .i64 k, .int .i64 m] 36)).alloc (.cells #[tx a, tx b, .int .i64 f, .bool o] 34)) from ((Below.refl _ _).alloc (Nat.le_refl _) _).alloc (by simp) _)
  clear hR hL hs hg h1 h2 hLl hC i0 i1
  go_enter Tryd.func4, Tryd.ntmps4
  go_wp2_with fail
  refine (papShown _ (GG.out.below G0.out)).mono ?_
  rintro e w1 ⟨rfl, g1⟩
  have A1 := Lib.hid (A0.out.kept g1)
  have G1 := Lib.hid (G0.out.trans (g1.mono (by simp; omega)))
  clear g1 ic0 jc0 ic1 jc1 ic2 jc2 ic3 jc3 ic4 jc4 ic5 jc5 ic6 jc6
  have ac0 := A1.out.cell 0 rfl
  have ac1 := A1.out.cell 1 rfl
  have ac2 := A1.out.cell 2 rfl
  have ac3 := A1.out.cell 3 rfl
  go_wp2_with fail
  refine (H1.out _ (GG.out.below G1.out)).mono ?_
  rintro e w2 ⟨rfl, g2⟩
  have A2 := Lib.hid ((A1.out.kept g2).alloc (.cells #[tx x, tx y, .int .i64 z, .bool q] 34))
  have B2 := Lib.hid (Blk.new w2 34 [tx x, tx y, .int .i64 z, .bool q])
  have G2 := Lib.hid (grow_trans G1.out (g2.trans (((Below.refl _ _).alloc (Nat.le_refl _) (.cells #[tx x, tx y, .int .i64 z, .bool q] 34)).mono g2.size)))
  clear g2
  clear ac0 ac1 ac2 ac3
  have ac0 := A2.out.cell 0 rfl
  have ac1 := A2.out.cell 1 rfl
  have ac2 := A2.out.cell 2 rfl
  have ac3 := A2.out.cell 3 rfl
  go_wp2_with fail
  refine (H2.out _).mono ?_
  rintro e w3 ⟨rfl, g3⟩
  have A3 := Lib.hid ((A2.out.kept g3).alloc (.cells #[tx x, tx y, .int .i64 z, .bool q] 34))
  have B3 := Lib.hid ((B2.out.kept g3).alloc (.cells #[tx x, tx y, .int .i64 z, .bool q] 34))
  have C3 := Lib.hid (Blk.new w3 34 [tx x, tx y, .int .i64 z, .bool q])
  have G3 := Lib.hid (grow_trans G2.out (g3.trans (((Below.refl _ _).alloc (Nat.le_refl _) (.cells #[tx x, tx y, .int .i64 z, .bool q] 34)).mono g3.size)))
  clear g3
  clear ac0 ac1 ac2 ac3
  have ac0 := A3.out.cell 0 rfl
  have ac1 := A3.out.cell 1 rfl
  have ac2 := A3.out.cell 2 rfl
  have ac3 := A3.out.cell 3 rfl
  go_wp2_with fail
  refine (H3.out _).mono ?_
  rintro e w4 ⟨rfl, g4⟩
  have A4 := Lib.hid ((A3.out.kept g4).alloc (.cells #[tx x2, tx y2, .int .i64 f, .bool o] 34))
  have B4 := Lib.hid ((B3.out.kept g4).alloc (.cells #[tx x2, tx y2, .int .i64 f, .bool o] 34))
  have C4 := Lib.hid ((C3.out.kept g4).alloc (.cells #[tx x2, tx y2, .int .i64 f, .bool o] 34))
  have D4 := Lib.hid (Blk.new w4 34 [tx x2, tx y2, .int .i64 f, .bool o])
  have G4 := Lib.hid (grow_trans G3.out (g4.trans (((Below.refl _ _).alloc (Nat.le_refl _) (.cells #[tx x2, tx y2, .int .i64 f, .bool o] 34)).mono g4.size)))
  clear g4
  clear ac0 ac1 ac2 ac3
  have ac0 := A4.out.cell 0 rfl
  have ac1 := A4.out.cell 1 rfl
  have ac2 := A4.out.cell 2 rfl
  have ac3 := A4.out.cell 3 rfl
  go_wp2_with fail
  refine (H4.out _).mono ?_
  rintro e w5 ⟨rfl, g5⟩
  have A5 := Lib.hid ((A4.out.kept g5).alloc (.cells #[tx x2, tx y2, .int .i64 f, .bool o] 34))
  have B5 := Lib.hid ((B4.out.kept g5).alloc (.cells #[tx x2, tx y2, .int .i64 f, .bool o] 34))
  have C5 := Lib.hid ((C4.out.kept g5).alloc (.cells #[tx x2, tx y2, .int .i64 f, .bool o] 34))
  have D5 := Lib.hid ((D4.out.kept g5).alloc (.cells #[tx x2, tx y2, .int .i64 f, .bool o] 34))
  have E5 := Lib.hid (Blk.new w5 34 [tx x2, tx y2, .int .i64 f, .bool o])
  have G5 := Lib.hid (grow_trans G4.out (g5.trans (((Below.refl _ _).alloc (Nat.le_refl _) (.cells #[tx x2, tx y2, .int .i64 f, .bool o] 34)).mono g5.size)))
  clear g5
  clear ac0 ac1 ac2 ac3
  have hS0 : (fun w' : World => w'.cell? ⟨W.heap.size + 1, 0, none⟩ = some (tx a) ∧ w'.cell? ⟨W.heap.size + 1, 1, none⟩ = some (tx b) ∧ w'.cell? ⟨W.heap.size + 1, 2, none⟩ = some (.int .i64 f) ∧ w'.cell? ⟨W.heap.size + 1, 3, none⟩ = some (.bool o) ∧ Blk w' (W.heap.size + 1) 34 [tx a, tx b, .int .i64 f, .bool o] ∧ Blk w' (w2.heap.size) 34 [tx x, tx y, .int .i64 z, .bool q] ∧ Blk w' (w3.heap.size) 34 [tx x, tx y, .int .i64 z, .bool q] ∧ Blk w' (w4.heap.size) 34 [tx x2, tx y2, .int .i64 f, .bool o] ∧ Blk w' (w5.heap.size) 34 [tx x2, tx y2, .int .i64 f, .bool o] ∧ Below W.heap.size W w') (w5.alloc (.cells #[tx x2, tx y2, .int .i64 f, .bool o] 34)) := ⟨A5.out.cell 0 rfl, A5.out.cell 1 rfl, A5.out.cell 2 rfl, A5.out.cell 3 rfl, A5.out, B5.out, C5.out, D5.out, E5.out, G5.out⟩
  have hkp := Lib.hid (show ∀ X Y : World, (fun w' : World => w'.cell? ⟨W.heap.size + 1, 0, none⟩ = some (tx a) ∧ w'.cell? ⟨W.heap.size + 1, 1, none⟩ = some (tx b) ∧ w'.cell? ⟨W.heap.size + 1, 2, none⟩ = some (.int .i64 f) ∧ w'.cell? ⟨W.heap.size + 1, 3, none⟩ = some (.bool o) ∧ Blk w' (W.heap.size + 1) 34 [tx a, tx b, .int .i64 f, .bool o] ∧ Blk w' (w2.heap.size) 34 [tx x, tx y, .int .i64 z, .bool q] ∧ Blk w' (w3.heap.size) 34 [tx x, tx y, .int .i64 z, .bool q] ∧ Blk w' (w4.heap.size) 34 [tx x2, tx y2, .int .i64 f, .bool o] ∧ Blk w' (w5.heap.size) 34 [tx x2, tx y2, .int .i64 f, .bool o] ∧ Below W.heap.size W w') X → Below X.heap.size X Y → (fun w' : World => w'.cell? ⟨W.heap.size + 1, 0, none⟩ = some (tx a) ∧ w'.cell? ⟨W.heap.size + 1, 1, none⟩ = some (tx b) ∧ w'.cell? ⟨W.heap.size + 1, 2, none⟩ = some (.int .i64 f) ∧ w'.cell? ⟨W.heap.size + 1, 3, none⟩ = some (.bool o) ∧ Blk w' (W.heap.size + 1) 34 [tx a, tx b, .int .i64 f, .bool o] ∧ Blk w' (w2.heap.size) 34 [tx x, tx y, .int .i64 z, .bool q] ∧ Blk w' (w3.heap.size) 34 [tx x, tx y, .int .i64 z, .bool q] ∧ Blk w' (w4.heap.size) 34 [tx x2, tx y2, .int .i64 f, .bool o] ∧ Blk w' (w5.heap.size) 34 [tx x2, tx y2, .int .i64 f, .bool o] ∧ Below W.heap.size W w') Y from fun X Y ⟨k0, k1, k2, k3, b0, b1, b2, b3, b4, kb⟩ h => ⟨below_cell h k0, below_cell h k1, below_cell h k2, below_cell h k3, b0.kept h, b1.kept h, b2.kept h, b3.kept h, b4.kept h, grow_trans kb h⟩)
  have ac0 := A5.out.cell 0 rfl
  have ac1 := A5.out.cell 1 rfl
  have ac2 := A5.out.cell 2 rfl
  have ac3 := A5.out.cell 3 rfl
  go_wp2_with fail
  refine wp_region_held_drew (S := (fun w' : World => w'.cell? ⟨W.heap.size + 1, 0, none⟩ = some (tx a) ∧ w'.cell? ⟨W.heap.size + 1, 1, none⟩ = some (tx b) ∧ w'.cell? ⟨W.heap.size + 1, 2, none⟩ = some (.int .i64 f) ∧ w'.cell? ⟨W.heap.size + 1, 3, none⟩ = some (.bool o) ∧ Blk w' (W.heap.size + 1) 34 [tx a, tx b, .int .i64 f, .bool o] ∧ Blk w' (w2.heap.size) 34 [tx x, tx y, .int .i64 z, .bool q] ∧ Blk w' (w3.heap.size) 34 [tx x, tx y, .int .i64 z, .bool q] ∧ Blk w' (w4.heap.size) 34 [tx x2, tx y2, .int .i64 f, .bool o] ∧ Blk w' (w5.heap.size) 34 [tx x2, tx y2, .int .i64 f, .bool o] ∧ Below W.heap.size W w')) (by kernel_rfl) ?_ (fun hHeld => ?_)
  · exact hkp.out _ _ hS0 (Below.drew (Below.refl _ _))
  refine takeW (i := 0) (v := ?_) rfl (by kernel_rfl) (by kernel_rfl) (by kernel_rfl) (fun _ _ _ h => h) (by rfl) ?_ (by assumption) ?_
  rotate_left
  focus (intro w hSw; (try dsimp only at hSw); go_simp; try (with_reducible rfl))
  simp only [Act.put, List.setIfInBounds_toArray, List.set_cons_zero, List.set_cons_succ]
  refine takeW (i := 2) (v := ?_) rfl (by kernel_rfl) (by kernel_rfl) (by kernel_rfl) (fun _ _ _ h => h) (by rfl) ?_ (by assumption) ?_
  rotate_left
  focus (intro w hSw; (try dsimp only at hSw); go_simp; try (with_reducible rfl))
  simp only [Act.put, List.setIfInBounds_toArray, List.set_cons_zero, List.set_cons_succ]
  refine readyOne (i := 1) (by kernel_rfl) rfl (fun K hK => ?_)
  go_simp
  refine (H5.out _ (GG.out.below hHeld.2.2.2.2.2.2.2.2.2)).mono ?_
  rintro e w9 ⟨v1, rfl, hv1, g9⟩
  have kS := hkp.out _ _ hHeld g9
  have HV1 := Lib.hid hv1
  obtain ⟨m1, n1, rfl⟩ := hv1.len
  clear g9 hv1
  go_wp2_with fail
  refine hK.out _ _ kS (fun hHeld => ?_)
  clear hK K
  refine readyOne (i := 3) (by kernel_rfl) rfl (fun K hK => ?_)
  go_simp
  refine (H6.out _).mono ?_
  rintro e w9 ⟨v2, rfl, hv2, g9⟩
  have kS := hkp.out _ _ hHeld g9
  have HX1 := Lib.hid (HV1.out.below g9)
  have HX2 := Lib.hid hv2
  obtain ⟨m2, n2, rfl⟩ := hv2.len
  clear g9 hv2
  go_wp2_with fail
  refine hK.out _ _ kS (fun hHeld => ?_)
  clear hK K
  refine readyOne (i := 4) (by kernel_rfl) rfl (fun K hK => ?_)
  go_simp
  refine (same_eqP (beq_self_eq_true l) _ HX1.out HX2.out hLl2).mono ?_
  rintro e w9 ⟨rfl, qq, rfl⟩
  have kS := hkp.out _ _ hHeld (grow_draws _ qq)
  go_wp2_with fail
  refine hK.out _ _ kS (fun hHeld => ?_)
  clear hK K
  refine takeW (i := 5) (v := ?_) rfl (by kernel_rfl) (by kernel_rfl) (by kernel_rfl) (fun _ _ _ h => h) (by rfl) ?_ (by assumption) ?_
  rotate_left
  focus (intro w hSw; (try dsimp only at hSw); go_simp; try (with_reducible rfl))
  simp only [Act.put, List.setIfInBounds_toArray, List.set_cons_zero, List.set_cons_succ]
  refine wpAnyH_done (by kernel_rfl) ?_ _
  obtain ⟨-, -, -, -, A9, B9, C9, D9, E9, G9⟩ := (show (fun w' : World => w'.cell? ⟨W.heap.size + 1, 0, none⟩ = some (tx a) ∧ w'.cell? ⟨W.heap.size + 1, 1, none⟩ = some (tx b) ∧ w'.cell? ⟨W.heap.size + 1, 2, none⟩ = some (.int .i64 f) ∧ w'.cell? ⟨W.heap.size + 1, 3, none⟩ = some (.bool o) ∧ Blk w' (W.heap.size + 1) 34 [tx a, tx b, .int .i64 f, .bool o] ∧ Blk w' (w2.heap.size) 34 [tx x, tx y, .int .i64 z, .bool q] ∧ Blk w' (w3.heap.size) 34 [tx x, tx y, .int .i64 z, .bool q] ∧ Blk w' (w4.heap.size) 34 [tx x2, tx y2, .int .i64 f, .bool o] ∧ Blk w' (w5.heap.size) 34 [tx x2, tx y2, .int .i64 f, .bool o] ∧ Below W.heap.size W w') _ by assumption)
  have hS2 : (fun w' : World => w'.cell? ⟨W.heap.size + 1, 0, none⟩ = some (tx a) ∧ w'.cell? ⟨W.heap.size + 1, 1, none⟩ = some (tx b) ∧ w'.cell? ⟨W.heap.size + 1, 2, none⟩ = some (.int .i64 f) ∧ w'.cell? ⟨W.heap.size + 1, 3, none⟩ = some (.bool o) ∧ w'.cell? ⟨w2.heap.size, 0, none⟩ = some (tx x) ∧ w'.cell? ⟨w2.heap.size, 1, none⟩ = some (tx y) ∧ w'.cell? ⟨w2.heap.size, 2, none⟩ = some (.int .i64 z) ∧ w'.cell? ⟨w2.heap.size, 3, none⟩ = some (.bool q) ∧ w'.cell? ⟨w3.heap.size, 0, none⟩ = some (tx x) ∧ w'.cell? ⟨w3.heap.size, 1, none⟩ = some (tx y) ∧ w'.cell? ⟨w3.heap.size, 2, none⟩ = some (.int .i64 z) ∧ w'.cell? ⟨w3.heap.size, 3, none⟩ = some (.bool q) ∧ w'.cell? ⟨w4.heap.size, 0, none⟩ = some (tx x2) ∧ w'.cell? ⟨w4.heap.size, 1, none⟩ = some (tx y2) ∧ w'.cell? ⟨w4.heap.size, 2, none⟩ = some (.int .i64 f) ∧ w'.cell? ⟨w4.heap.size, 3, none⟩ = some (.bool o) ∧ w'.cell? ⟨w5.heap.size, 0, none⟩ = some (tx x2) ∧ w'.cell? ⟨w5.heap.size, 1, none⟩ = some (tx y2) ∧ w'.cell? ⟨w5.heap.size, 2, none⟩ = some (.int .i64 f) ∧ w'.cell? ⟨w5.heap.size, 3, none⟩ = some (.bool o) ∧ Below W.heap.size W w') _ := ⟨A9.cell 0 rfl, A9.cell 1 rfl, A9.cell 2 rfl, A9.cell 3 rfl, B9.cell 0 rfl, B9.cell 1 rfl, B9.cell 2 rfl, B9.cell 3 rfl, C9.cell 0 rfl, C9.cell 1 rfl, C9.cell 2 rfl, C9.cell 3 rfl, D9.cell 0 rfl, D9.cell 1 rfl, D9.cell 2 rfl, D9.cell 3 rfl, E9.cell 0 rfl, E9.cell 1 rfl, E9.cell 2 rfl, E9.cell 3 rfl, G9⟩
  have hk2 := Lib.hid (show ∀ X Y : World, (fun w' : World => w'.cell? ⟨W.heap.size + 1, 0, none⟩ = some (tx a) ∧ w'.cell? ⟨W.heap.size + 1, 1, none⟩ = some (tx b) ∧ w'.cell? ⟨W.heap.size + 1, 2, none⟩ = some (.int .i64 f) ∧ w'.cell? ⟨W.heap.size + 1, 3, none⟩ = some (.bool o) ∧ w'.cell? ⟨w2.heap.size, 0, none⟩ = some (tx x) ∧ w'.cell? ⟨w2.heap.size, 1, none⟩ = some (tx y) ∧ w'.cell? ⟨w2.heap.size, 2, none⟩ = some (.int .i64 z) ∧ w'.cell? ⟨w2.heap.size, 3, none⟩ = some (.bool q) ∧ w'.cell? ⟨w3.heap.size, 0, none⟩ = some (tx x) ∧ w'.cell? ⟨w3.heap.size, 1, none⟩ = some (tx y) ∧ w'.cell? ⟨w3.heap.size, 2, none⟩ = some (.int .i64 z) ∧ w'.cell? ⟨w3.heap.size, 3, none⟩ = some (.bool q) ∧ w'.cell? ⟨w4.heap.size, 0, none⟩ = some (tx x2) ∧ w'.cell? ⟨w4.heap.size, 1, none⟩ = some (tx y2) ∧ w'.cell? ⟨w4.heap.size, 2, none⟩ = some (.int .i64 f) ∧ w'.cell? ⟨w4.heap.size, 3, none⟩ = some (.bool o) ∧ w'.cell? ⟨w5.heap.size, 0, none⟩ = some (tx x2) ∧ w'.cell? ⟨w5.heap.size, 1, none⟩ = some (tx y2) ∧ w'.cell? ⟨w5.heap.size, 2, none⟩ = some (.int .i64 f) ∧ w'.cell? ⟨w5.heap.size, 3, none⟩ = some (.bool o) ∧ Below W.heap.size W w') X → Below X.heap.size X Y → (fun w' : World => w'.cell? ⟨W.heap.size + 1, 0, none⟩ = some (tx a) ∧ w'.cell? ⟨W.heap.size + 1, 1, none⟩ = some (tx b) ∧ w'.cell? ⟨W.heap.size + 1, 2, none⟩ = some (.int .i64 f) ∧ w'.cell? ⟨W.heap.size + 1, 3, none⟩ = some (.bool o) ∧ w'.cell? ⟨w2.heap.size, 0, none⟩ = some (tx x) ∧ w'.cell? ⟨w2.heap.size, 1, none⟩ = some (tx y) ∧ w'.cell? ⟨w2.heap.size, 2, none⟩ = some (.int .i64 z) ∧ w'.cell? ⟨w2.heap.size, 3, none⟩ = some (.bool q) ∧ w'.cell? ⟨w3.heap.size, 0, none⟩ = some (tx x) ∧ w'.cell? ⟨w3.heap.size, 1, none⟩ = some (tx y) ∧ w'.cell? ⟨w3.heap.size, 2, none⟩ = some (.int .i64 z) ∧ w'.cell? ⟨w3.heap.size, 3, none⟩ = some (.bool q) ∧ w'.cell? ⟨w4.heap.size, 0, none⟩ = some (tx x2) ∧ w'.cell? ⟨w4.heap.size, 1, none⟩ = some (tx y2) ∧ w'.cell? ⟨w4.heap.size, 2, none⟩ = some (.int .i64 f) ∧ w'.cell? ⟨w4.heap.size, 3, none⟩ = some (.bool o) ∧ w'.cell? ⟨w5.heap.size, 0, none⟩ = some (tx x2) ∧ w'.cell? ⟨w5.heap.size, 1, none⟩ = some (tx y2) ∧ w'.cell? ⟨w5.heap.size, 2, none⟩ = some (.int .i64 f) ∧ w'.cell? ⟨w5.heap.size, 3, none⟩ = some (.bool o) ∧ Below W.heap.size W w') Y from fun X Y ⟨k0, k1, k2, k3, k4, k5, k6, k7, k8, k9, k10, k11, k12, k13, k14, k15, k16, k17, k18, k19, kb⟩ h => ⟨below_cell h k0, below_cell h k1, below_cell h k2, below_cell h k3, below_cell h k4, below_cell h k5, below_cell h k6, below_cell h k7, below_cell h k8, below_cell h k9, below_cell h k10, below_cell h k11, below_cell h k12, below_cell h k13, below_cell h k14, below_cell h k15, below_cell h k16, below_cell h k17, below_cell h k18, below_cell h k19, grow_trans kb h⟩)
  have q1 := Lib.hid (fun W' (h : (fun w' : World => w'.cell? ⟨W.heap.size + 1, 0, none⟩ = some (tx a) ∧ w'.cell? ⟨W.heap.size + 1, 1, none⟩ = some (tx b) ∧ w'.cell? ⟨W.heap.size + 1, 2, none⟩ = some (.int .i64 f) ∧ w'.cell? ⟨W.heap.size + 1, 3, none⟩ = some (.bool o) ∧ w'.cell? ⟨w2.heap.size, 0, none⟩ = some (tx x) ∧ w'.cell? ⟨w2.heap.size, 1, none⟩ = some (tx y) ∧ w'.cell? ⟨w2.heap.size, 2, none⟩ = some (.int .i64 z) ∧ w'.cell? ⟨w2.heap.size, 3, none⟩ = some (.bool q) ∧ w'.cell? ⟨w3.heap.size, 0, none⟩ = some (tx x) ∧ w'.cell? ⟨w3.heap.size, 1, none⟩ = some (tx y) ∧ w'.cell? ⟨w3.heap.size, 2, none⟩ = some (.int .i64 z) ∧ w'.cell? ⟨w3.heap.size, 3, none⟩ = some (.bool q) ∧ w'.cell? ⟨w4.heap.size, 0, none⟩ = some (tx x2) ∧ w'.cell? ⟨w4.heap.size, 1, none⟩ = some (tx y2) ∧ w'.cell? ⟨w4.heap.size, 2, none⟩ = some (.int .i64 f) ∧ w'.cell? ⟨w4.heap.size, 3, none⟩ = some (.bool o) ∧ w'.cell? ⟨w5.heap.size, 0, none⟩ = some (tx x2) ∧ w'.cell? ⟨w5.heap.size, 1, none⟩ = some (tx y2) ∧ w'.cell? ⟨w5.heap.size, 2, none⟩ = some (.int .i64 f) ∧ w'.cell? ⟨w5.heap.size, 3, none⟩ = some (.bool o) ∧ Below W.heap.size W w') W') => keepB (fun w' : World => w'.cell? ⟨W.heap.size + 1, 0, none⟩ = some (tx a) ∧ w'.cell? ⟨W.heap.size + 1, 1, none⟩ = some (tx b) ∧ w'.cell? ⟨W.heap.size + 1, 2, none⟩ = some (.int .i64 f) ∧ w'.cell? ⟨W.heap.size + 1, 3, none⟩ = some (.bool o) ∧ w'.cell? ⟨w2.heap.size, 0, none⟩ = some (tx x) ∧ w'.cell? ⟨w2.heap.size, 1, none⟩ = some (tx y) ∧ w'.cell? ⟨w2.heap.size, 2, none⟩ = some (.int .i64 z) ∧ w'.cell? ⟨w2.heap.size, 3, none⟩ = some (.bool q) ∧ w'.cell? ⟨w3.heap.size, 0, none⟩ = some (tx x) ∧ w'.cell? ⟨w3.heap.size, 1, none⟩ = some (tx y) ∧ w'.cell? ⟨w3.heap.size, 2, none⟩ = some (.int .i64 z) ∧ w'.cell? ⟨w3.heap.size, 3, none⟩ = some (.bool q) ∧ w'.cell? ⟨w4.heap.size, 0, none⟩ = some (tx x2) ∧ w'.cell? ⟨w4.heap.size, 1, none⟩ = some (tx y2) ∧ w'.cell? ⟨w4.heap.size, 2, none⟩ = some (.int .i64 f) ∧ w'.cell? ⟨w4.heap.size, 3, none⟩ = some (.bool o) ∧ w'.cell? ⟨w5.heap.size, 0, none⟩ = some (tx x2) ∧ w'.cell? ⟨w5.heap.size, 1, none⟩ = some (tx y2) ∧ w'.cell? ⟨w5.heap.size, 2, none⟩ = some (.int .i64 f) ∧ w'.cell? ⟨w5.heap.size, 3, none⟩ = some (.bool o) ∧ Below W.heap.size W w') hk2.out (H7.out W' (GG.out.below h.2.2.2.2.2.2.2.2.2.2.2.2.2.2.2.2.2.2.2.2)) h)
  have q2 := Lib.hid (fun W' (h : (fun w' : World => w'.cell? ⟨W.heap.size + 1, 0, none⟩ = some (tx a) ∧ w'.cell? ⟨W.heap.size + 1, 1, none⟩ = some (tx b) ∧ w'.cell? ⟨W.heap.size + 1, 2, none⟩ = some (.int .i64 f) ∧ w'.cell? ⟨W.heap.size + 1, 3, none⟩ = some (.bool o) ∧ w'.cell? ⟨w2.heap.size, 0, none⟩ = some (tx x) ∧ w'.cell? ⟨w2.heap.size, 1, none⟩ = some (tx y) ∧ w'.cell? ⟨w2.heap.size, 2, none⟩ = some (.int .i64 z) ∧ w'.cell? ⟨w2.heap.size, 3, none⟩ = some (.bool q) ∧ w'.cell? ⟨w3.heap.size, 0, none⟩ = some (tx x) ∧ w'.cell? ⟨w3.heap.size, 1, none⟩ = some (tx y) ∧ w'.cell? ⟨w3.heap.size, 2, none⟩ = some (.int .i64 z) ∧ w'.cell? ⟨w3.heap.size, 3, none⟩ = some (.bool q) ∧ w'.cell? ⟨w4.heap.size, 0, none⟩ = some (tx x2) ∧ w'.cell? ⟨w4.heap.size, 1, none⟩ = some (tx y2) ∧ w'.cell? ⟨w4.heap.size, 2, none⟩ = some (.int .i64 f) ∧ w'.cell? ⟨w4.heap.size, 3, none⟩ = some (.bool o) ∧ w'.cell? ⟨w5.heap.size, 0, none⟩ = some (tx x2) ∧ w'.cell? ⟨w5.heap.size, 1, none⟩ = some (tx y2) ∧ w'.cell? ⟨w5.heap.size, 2, none⟩ = some (.int .i64 f) ∧ w'.cell? ⟨w5.heap.size, 3, none⟩ = some (.bool o) ∧ Below W.heap.size W w') W') => keepB (fun w' : World => w'.cell? ⟨W.heap.size + 1, 0, none⟩ = some (tx a) ∧ w'.cell? ⟨W.heap.size + 1, 1, none⟩ = some (tx b) ∧ w'.cell? ⟨W.heap.size + 1, 2, none⟩ = some (.int .i64 f) ∧ w'.cell? ⟨W.heap.size + 1, 3, none⟩ = some (.bool o) ∧ w'.cell? ⟨w2.heap.size, 0, none⟩ = some (tx x) ∧ w'.cell? ⟨w2.heap.size, 1, none⟩ = some (tx y) ∧ w'.cell? ⟨w2.heap.size, 2, none⟩ = some (.int .i64 z) ∧ w'.cell? ⟨w2.heap.size, 3, none⟩ = some (.bool q) ∧ w'.cell? ⟨w3.heap.size, 0, none⟩ = some (tx x) ∧ w'.cell? ⟨w3.heap.size, 1, none⟩ = some (tx y) ∧ w'.cell? ⟨w3.heap.size, 2, none⟩ = some (.int .i64 z) ∧ w'.cell? ⟨w3.heap.size, 3, none⟩ = some (.bool q) ∧ w'.cell? ⟨w4.heap.size, 0, none⟩ = some (tx x2) ∧ w'.cell? ⟨w4.heap.size, 1, none⟩ = some (tx y2) ∧ w'.cell? ⟨w4.heap.size, 2, none⟩ = some (.int .i64 f) ∧ w'.cell? ⟨w4.heap.size, 3, none⟩ = some (.bool o) ∧ w'.cell? ⟨w5.heap.size, 0, none⟩ = some (tx x2) ∧ w'.cell? ⟨w5.heap.size, 1, none⟩ = some (tx y2) ∧ w'.cell? ⟨w5.heap.size, 2, none⟩ = some (.int .i64 f) ∧ w'.cell? ⟨w5.heap.size, 3, none⟩ = some (.bool o) ∧ Below W.heap.size W w') hk2.out (H8.out W') h)
  have q3 := Lib.hid (fun W' (h : (fun w' : World => w'.cell? ⟨W.heap.size + 1, 0, none⟩ = some (tx a) ∧ w'.cell? ⟨W.heap.size + 1, 1, none⟩ = some (tx b) ∧ w'.cell? ⟨W.heap.size + 1, 2, none⟩ = some (.int .i64 f) ∧ w'.cell? ⟨W.heap.size + 1, 3, none⟩ = some (.bool o) ∧ w'.cell? ⟨w2.heap.size, 0, none⟩ = some (tx x) ∧ w'.cell? ⟨w2.heap.size, 1, none⟩ = some (tx y) ∧ w'.cell? ⟨w2.heap.size, 2, none⟩ = some (.int .i64 z) ∧ w'.cell? ⟨w2.heap.size, 3, none⟩ = some (.bool q) ∧ w'.cell? ⟨w3.heap.size, 0, none⟩ = some (tx x) ∧ w'.cell? ⟨w3.heap.size, 1, none⟩ = some (tx y) ∧ w'.cell? ⟨w3.heap.size, 2, none⟩ = some (.int .i64 z) ∧ w'.cell? ⟨w3.heap.size, 3, none⟩ = some (.bool q) ∧ w'.cell? ⟨w4.heap.size, 0, none⟩ = some (tx x2) ∧ w'.cell? ⟨w4.heap.size, 1, none⟩ = some (tx y2) ∧ w'.cell? ⟨w4.heap.size, 2, none⟩ = some (.int .i64 f) ∧ w'.cell? ⟨w4.heap.size, 3, none⟩ = some (.bool o) ∧ w'.cell? ⟨w5.heap.size, 0, none⟩ = some (tx x2) ∧ w'.cell? ⟨w5.heap.size, 1, none⟩ = some (tx y2) ∧ w'.cell? ⟨w5.heap.size, 2, none⟩ = some (.int .i64 f) ∧ w'.cell? ⟨w5.heap.size, 3, none⟩ = some (.bool o) ∧ Below W.heap.size W w') W') => keepB (fun w' : World => w'.cell? ⟨W.heap.size + 1, 0, none⟩ = some (tx a) ∧ w'.cell? ⟨W.heap.size + 1, 1, none⟩ = some (tx b) ∧ w'.cell? ⟨W.heap.size + 1, 2, none⟩ = some (.int .i64 f) ∧ w'.cell? ⟨W.heap.size + 1, 3, none⟩ = some (.bool o) ∧ w'.cell? ⟨w2.heap.size, 0, none⟩ = some (tx x) ∧ w'.cell? ⟨w2.heap.size, 1, none⟩ = some (tx y) ∧ w'.cell? ⟨w2.heap.size, 2, none⟩ = some (.int .i64 z) ∧ w'.cell? ⟨w2.heap.size, 3, none⟩ = some (.bool q) ∧ w'.cell? ⟨w3.heap.size, 0, none⟩ = some (tx x) ∧ w'.cell? ⟨w3.heap.size, 1, none⟩ = some (tx y) ∧ w'.cell? ⟨w3.heap.size, 2, none⟩ = some (.int .i64 z) ∧ w'.cell? ⟨w3.heap.size, 3, none⟩ = some (.bool q) ∧ w'.cell? ⟨w4.heap.size, 0, none⟩ = some (tx x2) ∧ w'.cell? ⟨w4.heap.size, 1, none⟩ = some (tx y2) ∧ w'.cell? ⟨w4.heap.size, 2, none⟩ = some (.int .i64 f) ∧ w'.cell? ⟨w4.heap.size, 3, none⟩ = some (.bool o) ∧ w'.cell? ⟨w5.heap.size, 0, none⟩ = some (tx x2) ∧ w'.cell? ⟨w5.heap.size, 1, none⟩ = some (tx y2) ∧ w'.cell? ⟨w5.heap.size, 2, none⟩ = some (.int .i64 f) ∧ w'.cell? ⟨w5.heap.size, 3, none⟩ = some (.bool o) ∧ Below W.heap.size W w') hk2.out (H9.out W') h)
  have q4 := Lib.hid (fun W' (h : (fun w' : World => w'.cell? ⟨W.heap.size + 1, 0, none⟩ = some (tx a) ∧ w'.cell? ⟨W.heap.size + 1, 1, none⟩ = some (tx b) ∧ w'.cell? ⟨W.heap.size + 1, 2, none⟩ = some (.int .i64 f) ∧ w'.cell? ⟨W.heap.size + 1, 3, none⟩ = some (.bool o) ∧ w'.cell? ⟨w2.heap.size, 0, none⟩ = some (tx x) ∧ w'.cell? ⟨w2.heap.size, 1, none⟩ = some (tx y) ∧ w'.cell? ⟨w2.heap.size, 2, none⟩ = some (.int .i64 z) ∧ w'.cell? ⟨w2.heap.size, 3, none⟩ = some (.bool q) ∧ w'.cell? ⟨w3.heap.size, 0, none⟩ = some (tx x) ∧ w'.cell? ⟨w3.heap.size, 1, none⟩ = some (tx y) ∧ w'.cell? ⟨w3.heap.size, 2, none⟩ = some (.int .i64 z) ∧ w'.cell? ⟨w3.heap.size, 3, none⟩ = some (.bool q) ∧ w'.cell? ⟨w4.heap.size, 0, none⟩ = some (tx x2) ∧ w'.cell? ⟨w4.heap.size, 1, none⟩ = some (tx y2) ∧ w'.cell? ⟨w4.heap.size, 2, none⟩ = some (.int .i64 f) ∧ w'.cell? ⟨w4.heap.size, 3, none⟩ = some (.bool o) ∧ w'.cell? ⟨w5.heap.size, 0, none⟩ = some (tx x2) ∧ w'.cell? ⟨w5.heap.size, 1, none⟩ = some (tx y2) ∧ w'.cell? ⟨w5.heap.size, 2, none⟩ = some (.int .i64 f) ∧ w'.cell? ⟨w5.heap.size, 3, none⟩ = some (.bool o) ∧ Below W.heap.size W w') W') => keepB (fun w' : World => w'.cell? ⟨W.heap.size + 1, 0, none⟩ = some (tx a) ∧ w'.cell? ⟨W.heap.size + 1, 1, none⟩ = some (tx b) ∧ w'.cell? ⟨W.heap.size + 1, 2, none⟩ = some (.int .i64 f) ∧ w'.cell? ⟨W.heap.size + 1, 3, none⟩ = some (.bool o) ∧ w'.cell? ⟨w2.heap.size, 0, none⟩ = some (tx x) ∧ w'.cell? ⟨w2.heap.size, 1, none⟩ = some (tx y) ∧ w'.cell? ⟨w2.heap.size, 2, none⟩ = some (.int .i64 z) ∧ w'.cell? ⟨w2.heap.size, 3, none⟩ = some (.bool q) ∧ w'.cell? ⟨w3.heap.size, 0, none⟩ = some (tx x) ∧ w'.cell? ⟨w3.heap.size, 1, none⟩ = some (tx y) ∧ w'.cell? ⟨w3.heap.size, 2, none⟩ = some (.int .i64 z) ∧ w'.cell? ⟨w3.heap.size, 3, none⟩ = some (.bool q) ∧ w'.cell? ⟨w4.heap.size, 0, none⟩ = some (tx x2) ∧ w'.cell? ⟨w4.heap.size, 1, none⟩ = some (tx y2) ∧ w'.cell? ⟨w4.heap.size, 2, none⟩ = some (.int .i64 f) ∧ w'.cell? ⟨w4.heap.size, 3, none⟩ = some (.bool o) ∧ w'.cell? ⟨w5.heap.size, 0, none⟩ = some (tx x2) ∧ w'.cell? ⟨w5.heap.size, 1, none⟩ = some (tx y2) ∧ w'.cell? ⟨w5.heap.size, 2, none⟩ = some (.int .i64 f) ∧ w'.cell? ⟨w5.heap.size, 3, none⟩ = some (.bool o) ∧ Below W.heap.size W w') hk2.out (H10.out W') h)
  clear A9 B9 C9 D9 E9 G9 H1 H2 H3 H4 H5 H6 H7 H8 H9 H10 hS0 hkp
  go_wp2_with fail
  go_region_held3 (fun w' : World => w'.cell? ⟨W.heap.size + 1, 0, none⟩ = some (tx a) ∧ w'.cell? ⟨W.heap.size + 1, 1, none⟩ = some (tx b) ∧ w'.cell? ⟨W.heap.size + 1, 2, none⟩ = some (.int .i64 f) ∧ w'.cell? ⟨W.heap.size + 1, 3, none⟩ = some (.bool o) ∧ w'.cell? ⟨w2.heap.size, 0, none⟩ = some (tx x) ∧ w'.cell? ⟨w2.heap.size, 1, none⟩ = some (tx y) ∧ w'.cell? ⟨w2.heap.size, 2, none⟩ = some (.int .i64 z) ∧ w'.cell? ⟨w2.heap.size, 3, none⟩ = some (.bool q) ∧ w'.cell? ⟨w3.heap.size, 0, none⟩ = some (tx x) ∧ w'.cell? ⟨w3.heap.size, 1, none⟩ = some (tx y) ∧ w'.cell? ⟨w3.heap.size, 2, none⟩ = some (.int .i64 z) ∧ w'.cell? ⟨w3.heap.size, 3, none⟩ = some (.bool q) ∧ w'.cell? ⟨w4.heap.size, 0, none⟩ = some (tx x2) ∧ w'.cell? ⟨w4.heap.size, 1, none⟩ = some (tx y2) ∧ w'.cell? ⟨w4.heap.size, 2, none⟩ = some (.int .i64 f) ∧ w'.cell? ⟨w4.heap.size, 3, none⟩ = some (.bool o) ∧ w'.cell? ⟨w5.heap.size, 0, none⟩ = some (tx x2) ∧ w'.cell? ⟨w5.heap.size, 1, none⟩ = some (tx y2) ∧ w'.cell? ⟨w5.heap.size, 2, none⟩ = some (.int .i64 f) ∧ w'.cell? ⟨w5.heap.size, 3, none⟩ = some (.bool o) ∧ Below W.heap.size W w')
    (first | assumption | exact hk2.out _ _ hS2 (Below.drew (Below.refl _ _)) | exact hk2.out _ _ (by assumption) ((Below.refl _ _).alloc (Nat.le_refl _) _))
    (first
      | (go_at_call 21; refine (q1.out _ (by assumption)).mono ?_; rintro e wz ⟨rfl, kS⟩)
      | (go_at_call 22; refine (q2.out _ (by assumption)).mono ?_; rintro e wz ⟨rfl, kS⟩)
      | (go_at_call 23; refine (q3.out _ (by assumption)).mono ?_; rintro e wz ⟨rfl, kS⟩)
      | (go_at_call 24; refine (q4.out _ (by assumption)).mono ?_; rintro e wz ⟨rfl, kS⟩))
  all_goals
    go_wp2_with fail
    go_ret
    exact ⟨rfl, (show (fun w' : World => w'.cell? ⟨W.heap.size + 1, 0, none⟩ = some (tx a) ∧ w'.cell? ⟨W.heap.size + 1, 1, none⟩ = some (tx b) ∧ w'.cell? ⟨W.heap.size + 1, 2, none⟩ = some (.int .i64 f) ∧ w'.cell? ⟨W.heap.size + 1, 3, none⟩ = some (.bool o) ∧ w'.cell? ⟨w2.heap.size, 0, none⟩ = some (tx x) ∧ w'.cell? ⟨w2.heap.size, 1, none⟩ = some (tx y) ∧ w'.cell? ⟨w2.heap.size, 2, none⟩ = some (.int .i64 z) ∧ w'.cell? ⟨w2.heap.size, 3, none⟩ = some (.bool q) ∧ w'.cell? ⟨w3.heap.size, 0, none⟩ = some (tx x) ∧ w'.cell? ⟨w3.heap.size, 1, none⟩ = some (tx y) ∧ w'.cell? ⟨w3.heap.size, 2, none⟩ = some (.int .i64 z) ∧ w'.cell? ⟨w3.heap.size, 3, none⟩ = some (.bool q) ∧ w'.cell? ⟨w4.heap.size, 0, none⟩ = some (tx x2) ∧ w'.cell? ⟨w4.heap.size, 1, none⟩ = some (tx y2) ∧ w'.cell? ⟨w4.heap.size, 2, none⟩ = some (.int .i64 f) ∧ w'.cell? ⟨w4.heap.size, 3, none⟩ = some (.bool o) ∧ w'.cell? ⟨w5.heap.size, 0, none⟩ = some (tx x2) ∧ w'.cell? ⟨w5.heap.size, 1, none⟩ = some (tx y2) ∧ w'.cell? ⟨w5.heap.size, 2, none⟩ = some (.int .i64 f) ∧ w'.cell? ⟨w5.heap.size, 3, none⟩ = some (.bool o) ∧ Below W.heap.size W w') _ by assumption).2.2.2.2.2.2.2.2.2.2.2.2.2.2.2.2.2.2.2.2⟩

set_option maxHeartbeats 2000000 in
theorem paperActs_out (a b r : List UInt8) (f k m : Int) (o : Bool) (W : World) (h : ¬ (a.length ≤ 2097152 ∧ b.length ≤ 4096)) (hg : GW W) :
    Calls Tryd.prog 4 #[.agg #[tx a, tx b, .int .i64 f, .bool o, tx r, .int .i64 k, .int .i64 m]] W fun e W' => e = .returned (.bool true) ∧ Below W.heap.size W W' := by
  have GG := Lib.hid hg
  have i0 := (Blk.new W 36 [tx a, tx b, .int .i64 f, .bool o, tx r, .int .i64 k, .int .i64 m])
  have i1 := i0.alloc (.cells #[tx a, tx b, .int .i64 f, .bool o] 34)
  have ic0 := i0.cell 0 rfl
  have jc0 := i1.cell 0 rfl
  have ic1 := i0.cell 1 rfl
  have jc1 := i1.cell 1 rfl
  have ic2 := i0.cell 2 rfl
  have jc2 := i1.cell 2 rfl
  have ic3 := i0.cell 3 rfl
  have jc3 := i1.cell 3 rfl
  have ic4 := i0.cell 4 rfl
  have jc4 := i1.cell 4 rfl
  have ic5 := i0.cell 5 rfl
  have jc5 := i1.cell 5 rfl
  have ic6 := i0.cell 6 rfl
  have jc6 := i1.cell 6 rfl
  have A0 := Lib.hid (by have h := Blk.new (W.alloc (.cells #[tx a, tx b, .int .i64 f, .bool o, tx r, .int .i64 k, .int .i64 m] 36)) 34 [tx a, tx b, .int .i64 f, .bool o]; rwa [World.size_alloc] at h : Blk ((W.alloc (.cells #[tx a, tx b, .int .i64 f, .bool o, tx r, .int .i64 k, .int .i64 m] 36)).alloc (.cells #[tx a, tx b, .int .i64 f, .bool o] 34)) (W.heap.size + 1) 34 [tx a, tx b, .int .i64 f, .bool o])
  have G0 := Lib.hid (show Below W.heap.size W ((W.alloc (.cells #[tx a, tx b, .int .i64 f, .bool o, tx r, .int .i64 k, .int .i64 m] 36)).alloc (.cells #[tx a, tx b, .int .i64 f, .bool o] 34)) from ((Below.refl _ _).alloc (Nat.le_refl _) _).alloc (by simp) _)
  clear hg i0 i1
  by_cases h1 : 2097152 < a.length
  · have t1 : decide ((2097152 : Int) < (a.length : Int)) = true := decide_eq_true (by omega)
    clear h
    go_enter Tryd.func4, Tryd.ntmps4
    go_wp2_with fail
    refine (papShown _ (GG.out.below G0.out)).mono ?_
    rintro e w1 ⟨rfl, g1⟩
    have A1 := Lib.hid (A0.out.kept g1)
    have G1 := Lib.hid (G0.out.trans (g1.mono (by simp; omega)))
    clear g1
    have c0 := A1.out.cell 0 rfl
    have c1 := A1.out.cell 1 rfl
    go_wp2
    go_ret
    exact ⟨rfl, G1.out⟩
  · have t1 : decide ((2097152 : Int) < (a.length : Int)) = false := decide_eq_false (by omega)
    have t2 : decide ((4096 : Int) < (b.length : Int)) = true := decide_eq_true (by omega)
    clear h
    go_enter Tryd.func4, Tryd.ntmps4
    go_wp2_with fail
    refine (papShown _ (GG.out.below G0.out)).mono ?_
    rintro e w1 ⟨rfl, g1⟩
    have A1 := Lib.hid (A0.out.kept g1)
    have G1 := Lib.hid (G0.out.trans (g1.mono (by simp; omega)))
    clear g1
    have c0 := A1.out.cell 0 rfl
    have c1 := A1.out.cell 1 rfl
    go_wp2
    go_ret
    exact ⟨rfl, G1.out⟩

theorem paperActs_walk {H : Type} (enc : TypeId × Value → H) (W : World) (base : Nat) (v0 : Value) (d0 : DataW H) (p0 : List MemPlace)
    (h0 : DataW.Trod enc Tryd.prog W 0 (fun _ => true) true 36 v0 d0 p0) (o0 : Value.okWide Tryd.prog W .any base 36 v0)
    (hsz : (DataW.weightsEach Tryd.prog [36] [d0]).all (· ≤ reachBytes) = true) (hg : GW W) :
    Calls Tryd.prog 4 #[v0] W fun e W' => e = .returned (.bool true) ∧ Below W.heap.size W W' := by
  obtain ⟨cs, rfl, hs⟩ := okWide_struct Tryd.underlying36 o0
  obtain ⟨fuel, hn⟩ := h0
  have hC : Tryd.prog.cellsOf 36 = 7 := by kernel_rfl
  have k1 : Tryd.prog.cellsOf 34 = 4 := by kernel_rfl
  have k2 : Tryd.prog.cellsOf 9 = 1 := by kernel_rfl
  have k3 : Tryd.prog.cellsOf 3 = 1 := by kernel_rfl
  have k4 : Tryd.prog.cellsOf 4 = 1 := by kernel_rfl
  obtain ⟨xs, m, _, hx, _, hlen, hf⟩ := DataW.trod_struct Tryd.underlying36 hn
  have hl : cs.toList.length = 7 := by simpa using hs.trans hC
  simp only [Value.cells] at hf
  obtain ⟨cl⟩ := cs
  simp only at hl hf
  simp only [Prod.mk.injEq] at hx
  obtain ⟨rfl, _⟩ := hx
  have hw := sized_at hsz (j := 0) rfl rfl
  match cl, hl, xs, hlen with
  | [e0, e1, e2, e3, e4, e5, e6], _, [y0, y1, y2, y3], _ =>
    have h0 := hf 0 _ rfl
    have h1 := hf 1 _ rfl
    have h2 := hf 2 _ rfl
    have h3 := hf 3 _ rfl
    simp only [List.map_cons, List.map_nil, DataW.weights, Tryd.underlying36] at hw
    obtain ⟨zs, m', _, hz, _, hlen', hf'⟩ := DataW.trod_struct Tryd.underlying34 (show DataW.trod enc Tryd.prog W 0 (fun _ => true) true m 34 [e0, e1, e2, e3] = some y0 by simpa [k1] using h0)
    match zs, hlen' with
    | [z0, z1, z2, z3], _ =>
      have g0 := hf' 0 _ rfl
      have g1 := hf' 1 _ rfl
      have g2 := hf' 2 _ rfl
      have g3 := hf' 3 _ rfl
      obtain ⟨a, rfl, _⟩ := trod_tx (v := e0) (y := z0) Tryd.underlying9 (by simpa [k2] using g0)
      obtain ⟨b, rfl, _⟩ := trod_tx (v := e1) (y := z1) Tryd.underlying9 (by simpa [k2] using g1)
      obtain ⟨f, f1, f2, rfl, _⟩ := trod_i64 (v := e2) (y := z2) Tryd.underlying3 (by simpa [k2, k3] using g2)
      obtain ⟨o, rfl, _⟩ := trod_bool (v := e3) (y := z3) (by simpa [k2, k3, k4] using g3)
      obtain ⟨r, rfl, hy⟩ := trod_tx (v := e4) (y := y1) Tryd.underlying9 (by simpa [k1, k2] using h1)
      obtain ⟨k, _, _, rfl, _⟩ := trod_i64 (v := e5) (y := y2) Tryd.underlying3 (by simpa [k1, k2, k3] using h2)
      obtain ⟨m, _, _, rfl, _⟩ := trod_i64 (v := e6) (y := y3) Tryd.underlying3 (by simpa [k1, k2, k3] using h3)
      have hr := sized_string hw (j := 1) rfl (by rw [hy]; rfl)
      by_cases h : a.length ≤ 2097152 ∧ b.length ≤ 4096
      · obtain ⟨⟨⟨x, y, z, q⟩, ea⟩, hA⟩ : ∃ R, Pp.appendR (a, b, f, o) r = R := ⟨_, rfl⟩
        cases o with
        | true => exact paperActs_in a b x y a b r f z k m true q ea 6 W h.1 h.2 hr f2 hA rfl hg
        | false => exact paperActs_in a b x y (a ++ b) [] r f z k m false q ea 0 W h.1 h.2 hr f2 hA rfl hg
      · exact paperActs_out a b r f k m o W h hg
end Go.Proofs.YtkkiedmcpibnaaaDoor
