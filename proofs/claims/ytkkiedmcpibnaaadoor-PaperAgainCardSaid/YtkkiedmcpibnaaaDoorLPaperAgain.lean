/- PaperAgain: the walk. -/
import Derived.Test.YtkkiedmcpibnaaaDoorPapEq
import Derived.Test.YtkkiedmcpibnaaaDoorKeepR
namespace Go.Proofs.YtkkiedmcpibnaaaDoor
open Go.RowKit Go.ChangeShapes Go.WideShapes Go.ChangeAt
set_option maxRecDepth 100000
attribute [local go_sem] ByteArray.mk_append_mk
attribute [local go_sem ↓] eq_pap
attribute [local go_sem] guard_pap

set_option maxHeartbeats 4000000 in
theorem paperAgain_in (a b x y : List UInt8) (f k m : Int) (o : Bool) (e0 : Nat) (W : World) (ha : a.length ≤ 1048576) (hb : b.length ≤ 1048576) (hxy : x.length + y.length ≤ 2097152) (h1 : Pp.syncR (a, b, f, o) = ((x, y, f, o), e0)) (h2 : Pp.syncR (x, y, f, o) = ((x, y, f, o), e0)) (h3 : x ++ y = a ++ b) (hg : GW W) :
    Calls Tryd.prog 8 #[papV (a, b, f, o), .int .i64 k, .int .i64 m] W fun e W' => e = .returned (.bool true) ∧ Below W.heap.size W W' := by
  obtain ⟨rs, t, hR⟩ : ∃ l t, Pp.Rd (a ++ b.take (Pp.keepN b.length k)) l t := ⟨_, _, Pp.read_rd _⟩
  obtain ⟨l, u, hL⟩ : ∃ l t, Pp.Rd (a ++ b) l t := ⟨_, _, Pp.read_rd _⟩
  obtain ⟨s, hs⟩ : ∃ s, Pp.frs rs = s := ⟨_, rfl⟩
  have hRl := Pp.rd_len hR
  have hsl : s.length ≤ 2097152 := by
    rw [← hs]
    have := congrArg List.length hR.eq
    rw [List.length_append, List.length_append, List.length_take] at this
    omega
  have hR2 : Pp.Rd (s ++ ([] : List UInt8).take (Pp.keepN ([] : List UInt8).length m)) rs [] := by
    rw [List.take_nil, List.append_nil]
    exact ⟨by rw [hs, List.append_nil], hR.small, Pp.take1_nil⟩
  have hLl := Pp.rd_len hL
  have hLl2 : l.length ≤ 140737488351232 := by rw [List.length_append] at hLl; omega
  have H1 := Lib.hid (fun W hW => pcrash_eq (f := f) (o := o) hR hs (by omega) W hW)
  have H2 := Lib.hid (fun W hW => pcrash_eq (f := -1) (o := false) hR2 hs (by simp; omega) W hW)
  have H3 := Lib.hid (fun W => psync_eq h1 (by omega) W)
  have H4 := Lib.hid (fun W => psync_eq h2 (by omega) W)
  have H5 := Lib.hid (fun W hW => precords f o hL (by omega) W hW)
  have H6 := Lib.hid (fun W hW => precords (a := x) (b := y) f o (by rw [h3]; exact hL) (by omega) W hW)
  have GG := Lib.hid hg
  have t1 : decide ((1048576 : Int) < (a.length : Int)) = false := decide_eq_false (by omega)
  have t2 : decide ((1048576 : Int) < (b.length : Int)) = false := decide_eq_false (by omega)
  have A0 := Lib.hid (Blk.new W 34 [tx a, tx b, .int .i64 f, .bool o])
  have G0 := Lib.hid (show Below W.heap.size W (W.alloc (.cells #[tx a, tx b, .int .i64 f, .bool o] 34)) from (Below.refl _ _).alloc (Nat.le_refl _) _)
  clear hR hR2 hL hs hg h1 h2 h3 hRl hLl
  go_enter Tryd.func8, Tryd.ntmps8
  go_wp2_with fail
  refine (papShown _ (GG.out.below G0.out)).mono ?_
  rintro e w1 ⟨rfl, g1⟩
  have A1 := Lib.hid (A0.out.kept g1)
  have G1 := Lib.hid (G0.out.trans (g1.mono (by simp)))
  clear g1
  have ac0 := A1.out.cell 0 rfl
  have ac1 := A1.out.cell 1 rfl
  have ac2 := A1.out.cell 2 rfl
  have ac3 := A1.out.cell 3 rfl
  go_wp2_with fail
  refine (H1.out _ (GG.out.below G1.out)).mono ?_
  rintro e w2 ⟨rfl, g2⟩
  have A2 := Lib.hid ((A1.out.kept g2).alloc (.cells #[tx s, tx [], .int .i64 (-1), .bool false] 34))
  have B2 := Lib.hid (Blk.new w2 34 [tx s, tx [], .int .i64 (-1), .bool false])
  have G2 := Lib.hid (grow_trans G1.out (g2.trans (((Below.refl _ _).alloc (Nat.le_refl _) (.cells #[tx s, tx [], .int .i64 (-1), .bool false] 34)).mono g2.size)))
  clear g2
  clear ac0 ac1 ac2 ac3
  have ac0 := A2.out.cell 0 rfl
  have ac1 := A2.out.cell 1 rfl
  have ac2 := A2.out.cell 2 rfl
  have ac3 := A2.out.cell 3 rfl
  have bc0 := B2.out.cell 0 rfl
  have bc1 := B2.out.cell 1 rfl
  have bc2 := B2.out.cell 2 rfl
  have bc3 := B2.out.cell 3 rfl
  go_wp2_with fail
  refine (H2.out _ (GG.out.below G2.out)).mono ?_
  rintro e w3 ⟨rfl, g3⟩
  have A3 := Lib.hid ((A2.out.kept g3).alloc (.cells #[tx s, tx [], .int .i64 (-1), .bool false] 34))
  have B3 := Lib.hid ((B2.out.kept g3).alloc (.cells #[tx s, tx [], .int .i64 (-1), .bool false] 34))
  have C3 := Lib.hid (Blk.new w3 34 [tx s, tx [], .int .i64 (-1), .bool false])
  have G3 := Lib.hid (grow_trans G2.out (g3.trans (((Below.refl _ _).alloc (Nat.le_refl _) (.cells #[tx s, tx [], .int .i64 (-1), .bool false] 34)).mono g3.size)))
  clear g3
  clear ac0 ac1 ac2 ac3 bc0 bc1 bc2 bc3
  have ac0 := A3.out.cell 0 rfl
  have ac1 := A3.out.cell 1 rfl
  have ac2 := A3.out.cell 2 rfl
  have ac3 := A3.out.cell 3 rfl
  go_wp2_with fail
  refine (H3.out _).mono ?_
  rintro e w4 ⟨rfl, g4⟩
  have A4 := Lib.hid ((A3.out.kept g4).alloc (.cells #[tx x, tx y, .int .i64 f, .bool o] 34))
  have B4 := Lib.hid ((B3.out.kept g4).alloc (.cells #[tx x, tx y, .int .i64 f, .bool o] 34))
  have C4 := Lib.hid ((C3.out.kept g4).alloc (.cells #[tx x, tx y, .int .i64 f, .bool o] 34))
  have D4 := Lib.hid (Blk.new w4 34 [tx x, tx y, .int .i64 f, .bool o])
  have G4 := Lib.hid (grow_trans G3.out (g4.trans (((Below.refl _ _).alloc (Nat.le_refl _) (.cells #[tx x, tx y, .int .i64 f, .bool o] 34)).mono g4.size)))
  clear g4
  clear ac0 ac1 ac2 ac3
  have dc0 := D4.out.cell 0 rfl
  have dc1 := D4.out.cell 1 rfl
  have dc2 := D4.out.cell 2 rfl
  have dc3 := D4.out.cell 3 rfl
  go_wp2_with fail
  refine (H4.out _).mono ?_
  rintro e w5 ⟨rfl, g5⟩
  have A5 := Lib.hid ((A4.out.kept g5).alloc (.cells #[tx x, tx y, .int .i64 f, .bool o] 34))
  have B5 := Lib.hid ((B4.out.kept g5).alloc (.cells #[tx x, tx y, .int .i64 f, .bool o] 34))
  have C5 := Lib.hid ((C4.out.kept g5).alloc (.cells #[tx x, tx y, .int .i64 f, .bool o] 34))
  have D5 := Lib.hid ((D4.out.kept g5).alloc (.cells #[tx x, tx y, .int .i64 f, .bool o] 34))
  have E5 := Lib.hid (Blk.new w5 34 [tx x, tx y, .int .i64 f, .bool o])
  have G5 := Lib.hid (grow_trans G4.out (g5.trans (((Below.refl _ _).alloc (Nat.le_refl _) (.cells #[tx x, tx y, .int .i64 f, .bool o] 34)).mono g5.size)))
  clear g5
  clear dc0 dc1 dc2 dc3
  have hS0 : (fun w' : World => w'.cell? ⟨W.heap.size, 0, none⟩ = some (tx a) ∧ w'.cell? ⟨W.heap.size, 1, none⟩ = some (tx b) ∧ w'.cell? ⟨W.heap.size, 2, none⟩ = some (.int .i64 f) ∧ w'.cell? ⟨W.heap.size, 3, none⟩ = some (.bool o) ∧ w'.cell? ⟨w4.heap.size, 0, none⟩ = some (tx x) ∧ w'.cell? ⟨w4.heap.size, 1, none⟩ = some (tx y) ∧ w'.cell? ⟨w4.heap.size, 2, none⟩ = some (.int .i64 f) ∧ w'.cell? ⟨w4.heap.size, 3, none⟩ = some (.bool o) ∧ Blk w' (W.heap.size) 34 [tx a, tx b, .int .i64 f, .bool o] ∧ Blk w' (w2.heap.size) 34 [tx s, tx [], .int .i64 (-1), .bool false] ∧ Blk w' (w3.heap.size) 34 [tx s, tx [], .int .i64 (-1), .bool false] ∧ Blk w' (w4.heap.size) 34 [tx x, tx y, .int .i64 f, .bool o] ∧ Blk w' (w5.heap.size) 34 [tx x, tx y, .int .i64 f, .bool o] ∧ Below W.heap.size W w') (w5.alloc (.cells #[tx x, tx y, .int .i64 f, .bool o] 34)) := ⟨A5.out.cell 0 rfl, A5.out.cell 1 rfl, A5.out.cell 2 rfl, A5.out.cell 3 rfl, D5.out.cell 0 rfl, D5.out.cell 1 rfl, D5.out.cell 2 rfl, D5.out.cell 3 rfl, A5.out, B5.out, C5.out, D5.out, E5.out, G5.out⟩
  have hkp := Lib.hid (show ∀ X Y : World, (fun w' : World => w'.cell? ⟨W.heap.size, 0, none⟩ = some (tx a) ∧ w'.cell? ⟨W.heap.size, 1, none⟩ = some (tx b) ∧ w'.cell? ⟨W.heap.size, 2, none⟩ = some (.int .i64 f) ∧ w'.cell? ⟨W.heap.size, 3, none⟩ = some (.bool o) ∧ w'.cell? ⟨w4.heap.size, 0, none⟩ = some (tx x) ∧ w'.cell? ⟨w4.heap.size, 1, none⟩ = some (tx y) ∧ w'.cell? ⟨w4.heap.size, 2, none⟩ = some (.int .i64 f) ∧ w'.cell? ⟨w4.heap.size, 3, none⟩ = some (.bool o) ∧ Blk w' (W.heap.size) 34 [tx a, tx b, .int .i64 f, .bool o] ∧ Blk w' (w2.heap.size) 34 [tx s, tx [], .int .i64 (-1), .bool false] ∧ Blk w' (w3.heap.size) 34 [tx s, tx [], .int .i64 (-1), .bool false] ∧ Blk w' (w4.heap.size) 34 [tx x, tx y, .int .i64 f, .bool o] ∧ Blk w' (w5.heap.size) 34 [tx x, tx y, .int .i64 f, .bool o] ∧ Below W.heap.size W w') X → Below X.heap.size X Y → (fun w' : World => w'.cell? ⟨W.heap.size, 0, none⟩ = some (tx a) ∧ w'.cell? ⟨W.heap.size, 1, none⟩ = some (tx b) ∧ w'.cell? ⟨W.heap.size, 2, none⟩ = some (.int .i64 f) ∧ w'.cell? ⟨W.heap.size, 3, none⟩ = some (.bool o) ∧ w'.cell? ⟨w4.heap.size, 0, none⟩ = some (tx x) ∧ w'.cell? ⟨w4.heap.size, 1, none⟩ = some (tx y) ∧ w'.cell? ⟨w4.heap.size, 2, none⟩ = some (.int .i64 f) ∧ w'.cell? ⟨w4.heap.size, 3, none⟩ = some (.bool o) ∧ Blk w' (W.heap.size) 34 [tx a, tx b, .int .i64 f, .bool o] ∧ Blk w' (w2.heap.size) 34 [tx s, tx [], .int .i64 (-1), .bool false] ∧ Blk w' (w3.heap.size) 34 [tx s, tx [], .int .i64 (-1), .bool false] ∧ Blk w' (w4.heap.size) 34 [tx x, tx y, .int .i64 f, .bool o] ∧ Blk w' (w5.heap.size) 34 [tx x, tx y, .int .i64 f, .bool o] ∧ Below W.heap.size W w') Y from fun X Y ⟨k0, k1, k2, k3, k4, k5, k6, k7, b0, b1, b2, b3, b4, kb⟩ h => ⟨below_cell h k0, below_cell h k1, below_cell h k2, below_cell h k3, below_cell h k4, below_cell h k5, below_cell h k6, below_cell h k7, b0.kept h, b1.kept h, b2.kept h, b3.kept h, b4.kept h, grow_trans kb h⟩)
  have ac0 := A5.out.cell 0 rfl
  have ac1 := A5.out.cell 1 rfl
  have ac2 := A5.out.cell 2 rfl
  have ac3 := A5.out.cell 3 rfl
  have dc0 := D5.out.cell 0 rfl
  have dc1 := D5.out.cell 1 rfl
  have dc2 := D5.out.cell 2 rfl
  have dc3 := D5.out.cell 3 rfl
  go_wp2_with fail
  refine wp_region_held_drew (S := (fun w' : World => w'.cell? ⟨W.heap.size, 0, none⟩ = some (tx a) ∧ w'.cell? ⟨W.heap.size, 1, none⟩ = some (tx b) ∧ w'.cell? ⟨W.heap.size, 2, none⟩ = some (.int .i64 f) ∧ w'.cell? ⟨W.heap.size, 3, none⟩ = some (.bool o) ∧ w'.cell? ⟨w4.heap.size, 0, none⟩ = some (tx x) ∧ w'.cell? ⟨w4.heap.size, 1, none⟩ = some (tx y) ∧ w'.cell? ⟨w4.heap.size, 2, none⟩ = some (.int .i64 f) ∧ w'.cell? ⟨w4.heap.size, 3, none⟩ = some (.bool o) ∧ Blk w' (W.heap.size) 34 [tx a, tx b, .int .i64 f, .bool o] ∧ Blk w' (w2.heap.size) 34 [tx s, tx [], .int .i64 (-1), .bool false] ∧ Blk w' (w3.heap.size) 34 [tx s, tx [], .int .i64 (-1), .bool false] ∧ Blk w' (w4.heap.size) 34 [tx x, tx y, .int .i64 f, .bool o] ∧ Blk w' (w5.heap.size) 34 [tx x, tx y, .int .i64 f, .bool o] ∧ Below W.heap.size W w')) (by kernel_rfl) ?_ (fun hHeld => ?_)
  · exact hkp.out _ _ hS0 (Below.drew (Below.refl _ _))
  refine takeW (i := 0) (v := ?_) rfl (by kernel_rfl) (by kernel_rfl) (by kernel_rfl) (fun _ _ _ h => h) (by rfl) ?_ (by assumption) ?_
  rotate_left
  focus (intro w hSw; (try dsimp only at hSw); go_simp; try (with_reducible rfl))
  simp only [Act.put, List.setIfInBounds_toArray, List.set_cons_zero, List.set_cons_succ]
  refine takeW (i := 2) (v := ?_) rfl (by kernel_rfl) (by kernel_rfl) (by kernel_rfl) (fun _ _ _ h => h) (by rfl) ?_ (by assumption) ?_
  rotate_left
  focus (intro w hSw; (try dsimp only at hSw); go_simp; try (with_reducible rfl))
  simp only [Act.put, List.setIfInBounds_toArray, List.set_cons_zero, List.set_cons_succ]
  refine readyOne (i := 1) (by kernel_rfl) rfl (fun K hK => ?_)
  go_simp
  refine (H5.out _ (GG.out.below hHeld.2.2.2.2.2.2.2.2.2.2.2.2.2)).mono ?_
  rintro e w9 ⟨v1, rfl, hv1, g9⟩
  have kS := hkp.out _ _ hHeld g9
  have HV1 := Lib.hid hv1
  obtain ⟨m1, n1, rfl⟩ := hv1.len
  clear g9 hv1
  go_wp2_with fail
  refine hK.out _ _ kS (fun hHeld => ?_)
  clear hK K
  refine readyOne (i := 3) (by kernel_rfl) rfl (fun K hK => ?_)
  go_simp
  refine (H6.out _ (GG.out.below hHeld.2.2.2.2.2.2.2.2.2.2.2.2.2)).mono ?_
  rintro e w9 ⟨v2, rfl, hv2, g9⟩
  have kS := hkp.out _ _ hHeld g9
  have HX1 := Lib.hid (HV1.out.below g9)
  have HX2 := Lib.hid hv2
  obtain ⟨m2, n2, rfl⟩ := hv2.len
  clear g9 hv2
  go_wp2_with fail
  refine hK.out _ _ kS (fun hHeld => ?_)
  clear hK K
  refine readyOne (i := 4) (by kernel_rfl) rfl (fun K hK => ?_)
  go_simp
  refine (same_eqP (beq_self_eq_true l) _ HX1.out HX2.out hLl2).mono ?_
  rintro e w9 ⟨rfl, q, rfl⟩
  have kS := hkp.out _ _ hHeld (grow_draws _ q)
  go_wp2_with fail
  refine hK.out _ _ kS (fun hHeld => ?_)
  clear hK K
  refine takeW (i := 5) (v := ?_) rfl (by kernel_rfl) (by kernel_rfl) (by kernel_rfl) (fun _ _ _ h => h) (by rfl) ?_ (by assumption) ?_
  rotate_left
  focus (intro w hSw; (try dsimp only at hSw); go_simp; try (with_reducible rfl))
  simp only [Act.put, List.setIfInBounds_toArray, List.set_cons_zero, List.set_cons_succ]
  refine wpAnyH_done (by kernel_rfl) ?_ _
  obtain ⟨-, -, -, -, -, -, -, -, A9, B9, C9, D9, E9, G9⟩ := (show (fun w' : World => w'.cell? ⟨W.heap.size, 0, none⟩ = some (tx a) ∧ w'.cell? ⟨W.heap.size, 1, none⟩ = some (tx b) ∧ w'.cell? ⟨W.heap.size, 2, none⟩ = some (.int .i64 f) ∧ w'.cell? ⟨W.heap.size, 3, none⟩ = some (.bool o) ∧ w'.cell? ⟨w4.heap.size, 0, none⟩ = some (tx x) ∧ w'.cell? ⟨w4.heap.size, 1, none⟩ = some (tx y) ∧ w'.cell? ⟨w4.heap.size, 2, none⟩ = some (.int .i64 f) ∧ w'.cell? ⟨w4.heap.size, 3, none⟩ = some (.bool o) ∧ Blk w' (W.heap.size) 34 [tx a, tx b, .int .i64 f, .bool o] ∧ Blk w' (w2.heap.size) 34 [tx s, tx [], .int .i64 (-1), .bool false] ∧ Blk w' (w3.heap.size) 34 [tx s, tx [], .int .i64 (-1), .bool false] ∧ Blk w' (w4.heap.size) 34 [tx x, tx y, .int .i64 f, .bool o] ∧ Blk w' (w5.heap.size) 34 [tx x, tx y, .int .i64 f, .bool o] ∧ Below W.heap.size W w') _ by assumption)
  have bd0 := B9.cell 0 rfl
  have bd1 := B9.cell 1 rfl
  have bd2 := B9.cell 2 rfl
  have bd3 := B9.cell 3 rfl
  have cd0 := C9.cell 0 rfl
  have cd1 := C9.cell 1 rfl
  have cd2 := C9.cell 2 rfl
  have cd3 := C9.cell 3 rfl
  have dd0 := D9.cell 0 rfl
  have dd1 := D9.cell 1 rfl
  have dd2 := D9.cell 2 rfl
  have dd3 := D9.cell 3 rfl
  have ed0 := E9.cell 0 rfl
  have ed1 := E9.cell 1 rfl
  have ed2 := E9.cell 2 rfl
  have ed3 := E9.cell 3 rfl
  clear A9 B9 C9 D9 E9
  go_wp2
  go_ret
  exact ⟨rfl, G9⟩

set_option maxHeartbeats 2000000 in
theorem paperAgain_out (a b : List UInt8) (f k m : Int) (o : Bool) (W : World) (h : ¬ (a.length ≤ 1048576 ∧ b.length ≤ 1048576)) (hg : GW W) :
    Calls Tryd.prog 8 #[papV (a, b, f, o), .int .i64 k, .int .i64 m] W fun e W' => e = .returned (.bool true) ∧ Below W.heap.size W W' := by
  have GG := Lib.hid hg
  have A0 := Lib.hid (Blk.new W 34 [tx a, tx b, .int .i64 f, .bool o])
  have G0 := Lib.hid (show Below W.heap.size W (W.alloc (.cells #[tx a, tx b, .int .i64 f, .bool o] 34)) from (Below.refl _ _).alloc (Nat.le_refl _) _)
  clear hg
  by_cases h1 : 1048576 < a.length
  · have t1 : decide ((1048576 : Int) < (a.length : Int)) = true := decide_eq_true (by omega)
    clear h
    go_enter Tryd.func8, Tryd.ntmps8
    go_wp2_with fail
    refine (papShown _ (GG.out.below G0.out)).mono ?_
    rintro e w1 ⟨rfl, g1⟩
    have A1 := Lib.hid (A0.out.kept g1)
    have G1 := Lib.hid (G0.out.trans (g1.mono (by simp)))
    clear g1
    have c0 := A1.out.cell 0 rfl
    have c1 := A1.out.cell 1 rfl
    go_wp2
    go_ret
    exact ⟨rfl, G1.out⟩
  · have t1 : decide ((1048576 : Int) < (a.length : Int)) = false := decide_eq_false (by omega)
    have t2 : decide ((1048576 : Int) < (b.length : Int)) = true := decide_eq_true (by omega)
    clear h
    go_enter Tryd.func8, Tryd.ntmps8
    go_wp2_with fail
    refine (papShown _ (GG.out.below G0.out)).mono ?_
    rintro e w1 ⟨rfl, g1⟩
    have A1 := Lib.hid (A0.out.kept g1)
    have G1 := Lib.hid (G0.out.trans (g1.mono (by simp)))
    clear g1
    have c0 := A1.out.cell 0 rfl
    have c1 := A1.out.cell 1 rfl
    go_wp2
    go_ret
    exact ⟨rfl, G1.out⟩

theorem paperAgain_walk {H : Type} (enc : TypeId × Value → H) (W : World) (base : Nat) (v0 : Value) (v1 : Value) (v2 : Value) (d0 : DataW H) (d1 : DataW H) (d2 : DataW H) (p0 : List MemPlace) (p1 : List MemPlace) (p2 : List MemPlace)
    (h0 : DataW.Trod enc Tryd.prog W 0 (fun _ => true) true 34 v0 d0 p0) (o0 : Value.okWide Tryd.prog W .any base 34 v0)
    (h1 : DataW.Trod enc Tryd.prog W 0 (fun _ => true) true 3 v1 d1 p1) (o1 : Value.okWide Tryd.prog W .any base 3 v1)
    (h2 : DataW.Trod enc Tryd.prog W 0 (fun _ => true) true 3 v2 d2 p2) (o2 : Value.okWide Tryd.prog W .any base 3 v2)
    (_hsz : (DataW.weightsEach Tryd.prog [34, 3, 3] [d0, d1, d2]).all (· ≤ reachBytes) = true) (hg : GW W) :
    Calls Tryd.prog 8 #[v0, v1, v2] W fun e W' => e = .returned (.bool true) ∧ Below W.heap.size W W' := by
  obtain ⟨a0, a1, a2, a3, y0, y1, y2, y3, n, rfl, rfl, _, e0, e1, e2, e3⟩ := Joins.open_agg4 Tryd.underlying34 (by kernel_rfl) (by kernel_rfl) o0 h0
  obtain ⟨a, rfl, rfl⟩ := trod_tx Tryd.underlying9 e0
  obtain ⟨b, rfl, rfl⟩ := trod_tx Tryd.underlying9 e1
  obtain ⟨f, f1, f2, rfl, rfl⟩ := trod_i64 Tryd.underlying3 e2
  obtain ⟨o, rfl, rfl⟩ := trod_bool e3
  obtain ⟨k, k1, k2, rfl, rfl, rfl⟩ := open_i64 Tryd.underlying3 o1 h1
  obtain ⟨m, m1, m2, rfl, rfl, rfl⟩ := open_i64 Tryd.underlying3 o2 h2
  by_cases h : a.length ≤ 1048576 ∧ b.length ≤ 1048576
  · cases o with
    | true => exact paperAgain_in a b a b f k m true 6 W h.1 h.2 (by omega) rfl rfl rfl hg
    | false => exact paperAgain_in a b (a ++ b) [] f k m false 0 W h.1 h.2 (by simp; omega) rfl (by simp [Pp.syncR]) (by simp) hg
  · exact paperAgain_out a b f k m o W h hg
end Go.Proofs.YtkkiedmcpibnaaaDoor
