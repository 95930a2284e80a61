/- VertexBytes: the walk. -/
import Derived.Test.YtmhohnffaffdfaaDoorVtxRBytes
namespace Go.Proofs.YtmhohnffaffdfaaDoor
open Go.RowKit Go.ChangeShapes Go.WideShapes Go.ChangeAt
set_option maxRecDepth 100000

set_option maxHeartbeats 4000000 in
theorem vertexBytes_core (v : Vt.Vtx) (bv pv : Value) (n : Int) (W : World) (hb : BtsAt W bv v.2.2.1) (hp : TxAt W pv v.2.2.2.1) (mv : Vt.Mod v) (n1 : -9223372036854775808 ≤ n) (n2 : n ≤ 9223372036854775807) (hw : GW W) :
    Calls Tryd.prog 3 #[vtxV v.1 v.2.1 bv pv v.2.2.2.2.1 v.2.2.2.2.2, .int .i64 n] W fun e W' => e = .returned (.bool true) ∧ Below W.heap.size W W' := by
  have MV := Lib.hid mv
  have HW := Lib.hid hw
  obtain ⟨⟨bs', x'⟩, hR⟩ : ∃ R, Vt.bytesR v n = R := ⟨_, rfl⟩
  obtain ⟨⟨ds, y'⟩, hD⟩ : ∃ R, Vt.digestR v n = R := ⟨_, rfl⟩
  obtain ⟨z, hm⟩ : ∃ z, Vt.may v n = z := ⟨_, rfl⟩
  obtain ⟨a, r, bs, ps, x, y⟩ := v
  simp only [] at hb hp
  have HB := Lib.hid hb
  have HP := Lib.hid hp
  obtain ⟨m1, m2, rfl⟩ := hb.len
  obtain ⟨m3, m4, rfl⟩ := hp.len
  have H2 := Lib.hid (fun w h h' => pvbytes_eq hR (.slice m1 bs.length m2) (.slice m3 ps.length m4) w h h' mv.b mv.s mv.p n1 n2)
  have H3 := Lib.hid (fun w h h' => rvbytes_eq hR (.slice m1 bs.length m2) (.slice m3 ps.length m4) w h h' mv n1 n2)
  have H4 := Lib.hid (fun w h h' g => pvdigest_eq hD (.slice m1 bs.length m2) (.slice m3 ps.length m4) w h h' mv n1 n2 g)
  have H5 := Lib.hid (fun w h h' => rvdigest_eq hD (.slice m1 bs.length m2) (.slice m3 ps.length m4) w h h' mv n1 n2)
  have H6 := Lib.hid (fun w h h' => pvmay_eq hm (.slice m1 bs.length m2) (.slice m3 ps.length m4) w h h' mv.b mv.s mv.p n1 n2)
  have H7 := Lib.hid (fun w h h' => rvmay_eq hm (.slice m1 bs.length m2) (.slice m3 ps.length m4) w h h' mv.b mv.p n1 n2)
  simp only [] at H2 H3 H4 H5 H6 H7
  have A0 := Lib.hid (VBox.new W a r (.slice m1 bs.length m2) (.slice m3 ps.length m4) x y)
  have HG := Lib.hid (show Below W.heap.size W (W.alloc (.cells #[.int .i64 a, .int .i64 r, .slice m1 bs.length m2, .slice m3 ps.length m4, .int .i64 x, .int .i64 y] 27)) from (Below.refl _ _).alloc (Nat.le_refl _) _)
  clear hb hp hm hR hD mv hw
  go_enter Tryd.func3, Tryd.ntmps3
  go_wp2_with fail
  refine (vtxShown _).mono ?_
  rintro e w1 ⟨rfl, g1⟩
  have A1 := Lib.hid (A0.out.kept g1)
  have G1 := Lib.hid (HG.out.trans (g1.mono (by simp)))
  obtain ⟨c0, c1, c2, c3, c4, c5⟩ := A1.out.cells
  clear g1
  go_wp2_with fail
  refine (H2.out _ (HB.out.below G1.out) (HP.out.below G1.out)).mono ?_
  rintro e w2 ⟨rfl, g2⟩
  have A2 := Lib.hid (A1.out.kept g2)
  have G2 := Lib.hid (grow_trans G1.out g2)
  clear g2 c0 c1 c2 c3 c4 c5
  obtain ⟨c0, c1, c2, c3, c4, c5⟩ := A2.out.cells
  go_wp2_with fail
  refine (H3.out _ (HB.out.below G2.out) (HP.out.below G2.out)).mono ?_
  rintro e w3 ⟨rfl, g3⟩
  have A3 := Lib.hid (A2.out.kept g3)
  have G3 := Lib.hid (grow_trans G2.out g3)
  clear g3 c0 c1 c2 c3 c4 c5
  obtain ⟨c0, c1, c2, c3, c4, c5⟩ := A3.out.cells
  go_wp2_with fail
  refine (H4.out _ (HB.out.below G3.out) (HP.out.below G3.out) (HW.out.below G3.out)).mono ?_
  rintro e w4 ⟨rfl, g4⟩
  have A4 := Lib.hid (A3.out.kept g4)
  have G4 := Lib.hid (grow_trans G3.out g4)
  clear g4 c0 c1 c2 c3 c4 c5
  obtain ⟨c0, c1, c2, c3, c4, c5⟩ := A4.out.cells
  go_wp2_with fail
  refine (H5.out _ (HB.out.below G4.out) (HP.out.below G4.out)).mono ?_
  rintro e w5 ⟨rfl, g5⟩
  have A5 := Lib.hid (A4.out.kept g5)
  have G5 := Lib.hid (grow_trans G4.out g5)
  clear g5 c0 c1 c2 c3 c4 c5
  obtain ⟨c0, c1, c2, c3, c4, c5⟩ := A5.out.cells
  have hS : (fun w' : World => w'.cell? ⟨W.heap.size, 0, none⟩ = some (.int .i64 a) ∧ w'.cell? ⟨W.heap.size, 1, none⟩ = some (.int .i64 r) ∧ w'.cell? ⟨W.heap.size, 2, none⟩ = some (.slice m1 bs.length m2) ∧ w'.cell? ⟨W.heap.size, 3, none⟩ = some (.slice m3 ps.length m4) ∧ w'.cell? ⟨W.heap.size, 4, none⟩ = some (.int .i64 x) ∧ w'.cell? ⟨W.heap.size, 5, none⟩ = some (.int .i64 y) ∧ Below W.heap.size W w') w5 := ⟨c0, c1, c2, c3, c4, c5, G5.out⟩
  have hk := Lib.hid (show ∀ a' b' : World, (fun w' : World => w'.cell? ⟨W.heap.size, 0, none⟩ = some (.int .i64 a) ∧ w'.cell? ⟨W.heap.size, 1, none⟩ = some (.int .i64 r) ∧ w'.cell? ⟨W.heap.size, 2, none⟩ = some (.slice m1 bs.length m2) ∧ w'.cell? ⟨W.heap.size, 3, none⟩ = some (.slice m3 ps.length m4) ∧ w'.cell? ⟨W.heap.size, 4, none⟩ = some (.int .i64 x) ∧ w'.cell? ⟨W.heap.size, 5, none⟩ = some (.int .i64 y) ∧ Below W.heap.size W w') a' → Below a'.heap.size a' b' → (fun w' : World => w'.cell? ⟨W.heap.size, 0, none⟩ = some (.int .i64 a) ∧ w'.cell? ⟨W.heap.size, 1, none⟩ = some (.int .i64 r) ∧ w'.cell? ⟨W.heap.size, 2, none⟩ = some (.slice m1 bs.length m2) ∧ w'.cell? ⟨W.heap.size, 3, none⟩ = some (.slice m3 ps.length m4) ∧ w'.cell? ⟨W.heap.size, 4, none⟩ = some (.int .i64 x) ∧ w'.cell? ⟨W.heap.size, 5, none⟩ = some (.int .i64 y) ∧ Below W.heap.size W w') b' from fun a' b' ⟨k0, k1, k2, k3, k4, k5, kb⟩ h => ⟨below_cell h k0, below_cell h k1, below_cell h k2, below_cell h k3, below_cell h k4, below_cell h k5, grow_trans kb h⟩)
  have hf := Lib.hid (fun X (h : (fun w' : World => w'.cell? ⟨W.heap.size, 0, none⟩ = some (.int .i64 a) ∧ w'.cell? ⟨W.heap.size, 1, none⟩ = some (.int .i64 r) ∧ w'.cell? ⟨W.heap.size, 2, none⟩ = some (.slice m1 bs.length m2) ∧ w'.cell? ⟨W.heap.size, 3, none⟩ = some (.slice m3 ps.length m4) ∧ w'.cell? ⟨W.heap.size, 4, none⟩ = some (.int .i64 x) ∧ w'.cell? ⟨W.heap.size, 5, none⟩ = some (.int .i64 y) ∧ Below W.heap.size W w') X) => keepB (fun w' : World => w'.cell? ⟨W.heap.size, 0, none⟩ = some (.int .i64 a) ∧ w'.cell? ⟨W.heap.size, 1, none⟩ = some (.int .i64 r) ∧ w'.cell? ⟨W.heap.size, 2, none⟩ = some (.slice m1 bs.length m2) ∧ w'.cell? ⟨W.heap.size, 3, none⟩ = some (.slice m3 ps.length m4) ∧ w'.cell? ⟨W.heap.size, 4, none⟩ = some (.int .i64 x) ∧ w'.cell? ⟨W.heap.size, 5, none⟩ = some (.int .i64 y) ∧ Below W.heap.size W w') hk.out (H6.out X (HB.out.below h.2.2.2.2.2.2) (HP.out.below h.2.2.2.2.2.2)) h)
  have hr := Lib.hid (fun X (h : (fun w' : World => w'.cell? ⟨W.heap.size, 0, none⟩ = some (.int .i64 a) ∧ w'.cell? ⟨W.heap.size, 1, none⟩ = some (.int .i64 r) ∧ w'.cell? ⟨W.heap.size, 2, none⟩ = some (.slice m1 bs.length m2) ∧ w'.cell? ⟨W.heap.size, 3, none⟩ = some (.slice m3 ps.length m4) ∧ w'.cell? ⟨W.heap.size, 4, none⟩ = some (.int .i64 x) ∧ w'.cell? ⟨W.heap.size, 5, none⟩ = some (.int .i64 y) ∧ Below W.heap.size W w') X) => keepB (fun w' : World => w'.cell? ⟨W.heap.size, 0, none⟩ = some (.int .i64 a) ∧ w'.cell? ⟨W.heap.size, 1, none⟩ = some (.int .i64 r) ∧ w'.cell? ⟨W.heap.size, 2, none⟩ = some (.slice m1 bs.length m2) ∧ w'.cell? ⟨W.heap.size, 3, none⟩ = some (.slice m3 ps.length m4) ∧ w'.cell? ⟨W.heap.size, 4, none⟩ = some (.int .i64 x) ∧ w'.cell? ⟨W.heap.size, 5, none⟩ = some (.int .i64 y) ∧ Below W.heap.size W w') hk.out (H7.out X (HB.out.below h.2.2.2.2.2.2) (HP.out.below h.2.2.2.2.2.2)) h)
  clear H2 H3 H4 H5 H6 H7 A0 A1 A2 A3 A4 A5 G1 G2 G3 G4 G5 HG HW MV c0 c1 c2 c3 c4 c5
  go_wp2_with fail
  go_region_held3 (fun w' : World => w'.cell? ⟨W.heap.size, 0, none⟩ = some (.int .i64 a) ∧ w'.cell? ⟨W.heap.size, 1, none⟩ = some (.int .i64 r) ∧ w'.cell? ⟨W.heap.size, 2, none⟩ = some (.slice m1 bs.length m2) ∧ w'.cell? ⟨W.heap.size, 3, none⟩ = some (.slice m3 ps.length m4) ∧ w'.cell? ⟨W.heap.size, 4, none⟩ = some (.int .i64 x) ∧ w'.cell? ⟨W.heap.size, 5, none⟩ = some (.int .i64 y) ∧ Below W.heap.size W w')
    (first | assumption | exact hk.out _ _ hS (Below.drew (Below.refl _ _)) | exact hk.out _ _ (by assumption) ((Below.refl _ _).alloc (Nat.le_refl _) _))
    (first
      | (go_at_call 9; refine (hf.out _ (by assumption)).mono ?_; rintro e w1 ⟨rfl, kS⟩)
      | (go_at_call 10; refine (hr.out _ (by assumption)).mono ?_; rintro e w1 ⟨rfl, kS⟩))
  all_goals (go_wp2_with fail; go_ret; exact ⟨rfl, (show (fun w' : World => w'.cell? ⟨W.heap.size, 0, none⟩ = some (.int .i64 a) ∧ w'.cell? ⟨W.heap.size, 1, none⟩ = some (.int .i64 r) ∧ w'.cell? ⟨W.heap.size, 2, none⟩ = some (.slice m1 bs.length m2) ∧ w'.cell? ⟨W.heap.size, 3, none⟩ = some (.slice m3 ps.length m4) ∧ w'.cell? ⟨W.heap.size, 4, none⟩ = some (.int .i64 x) ∧ w'.cell? ⟨W.heap.size, 5, none⟩ = some (.int .i64 y) ∧ Below W.heap.size W w') _ by assumption).2.2.2.2.2.2⟩)

theorem vertexBytes_walk {H : Type} (enc : TypeId × Value → H) (W : World) (base : Nat) (v0 : Value) (v1 : Value) (d0 : DataW H) (d1 : DataW H) (p0 : List MemPlace) (p1 : List MemPlace)
    (h0 : DataW.Trod enc Tryd.prog W 0 (fun _ => true) true 27 v0 d0 p0) (o0 : Value.okWide Tryd.prog W .any base 27 v0)
    (h1 : DataW.Trod enc Tryd.prog W 0 (fun _ => true) true 3 v1 d1 p1) (o1 : Value.okWide Tryd.prog W .any base 3 v1)
    (hsz : (DataW.weightsEach Tryd.prog [27, 3] [d0, d1]).all (· ≤ reachBytes) = true) (hg : GW W) :
    Calls Tryd.prog 3 #[v0, v1] W fun e W' => e = .returned (.bool true) ∧ Below W.heap.size W W' := by
  obtain ⟨u, bu, pu, rfl, hbu, hpu, l1, l2, l3⟩ := open_vtx o0 h0 (sized_at hsz (j := 0) rfl rfl)
  obtain ⟨n, n1, n2, rfl, rfl, rfl⟩ := open_i64 Tryd.underlying3 o1 h1
  exact vertexBytes_core u bu pu n W hbu hpu ⟨by omega, l2, by omega⟩ n1 n2 hg
end Go.Proofs.YtmhohnffaffdfaaDoor
