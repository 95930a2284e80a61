/- PostWrites: the walk. -/
import Derived.Test.YtbkpekpajeaacaaPostD
import Derived.Test.YtbkpekpajeaacaaGDig
namespace Go.Proofs.Ytbkpekpajeaacaa
open Go.RowKit Go.ChangeShapes Go.WideShapes Go.ChangeAt
set_option maxRecDepth 100000
attribute [local go_sem] ByteArray.mk_append_mk

set_option maxHeartbeats 8000000 in
theorem postWrites_core (v : Vt.Vtx) (s : Po.S) (c : Nat) (n : Int) (bv pv : Value) (W : World) (hb : BtsAt W bv v.2.2.1) (hp : TxAt W pv v.2.2.2.1) (mv : Vt.Mod v) (hx : c < 18446744073709551616) (hd : s.2.2.2.length ≤ 140737488351232) (n1 : -9223372036854775808 ≤ n) (n2 : n ≤ 9223372036854775807) :
    Calls Try.prog 3 #[.agg #[.int .i64 v.1, .int .i64 v.2.1, bv, pv, .int .i64 v.2.2.2.2.1, .int .i64 v.2.2.2.2.2, .int .u64 c, .int .i64 s.1, .int .i64 s.2.1, .int .i64 s.2.2.1, tx s.2.2.2, .int .i64 n]] W fun e W' => e = .returned (.bool true) ∧ Below W.heap.size W W' := by
  have H1 := Lib.hid (fun W hb hp => pheaderV v bv pv n W hb hp mv n1 n2)
  have H2 := Lib.hid (fun W hb hp => rheaderV v bv pv n W hb hp mv n1 n2)
  have H3 := Lib.hid (fun W hb hp => pproofP (v, c) bv pv n W hb hp mv hx n1 n2)
  have H4 := Lib.hid (fun W hb hp => rproofP (v, c) bv pv n W hb hp mv hx n1 n2)
  have H5 := Lib.hid (fun W => psay s.1 s.2.1 s.2.2.1 s.2.2.2 W)
  have H6 := Lib.hid (fun W => rsay s.1 s.2.1 s.2.2.1 s.2.2.2 W)
  have H7 := Lib.hid (fun W => pballot s.1 s.2.1 s.2.2.2 W)
  have H8 := Lib.hid (fun W => rballot s.1 s.2.1 s.2.2.2 W)
  have H9 := Lib.hid (fun W => ptx s.2.2.2 hd W)
  have H10 := Lib.hid (fun W => pkind s.2.2.2 W)
  have H11 := Lib.hid (fun W => rkind s.2.2.2 W)
  generalize Po.lettered 104 (Vt.bytesR v n) = R1 at *
  generalize Po.lettered 99 (Cr.bytesR (v, c) n) = R2 at *
  obtain ⟨q1, f1⟩ := R1
  obtain ⟨q2, f2⟩ := R2
  obtain ⟨a, r, bs, ps, x, y⟩ := v
  obtain ⟨sa, sr, sv, d⟩ := s
  simp only [] at hb hp hd
  have MV := Lib.hid mv
  have HB := Lib.hid hb
  have HP := Lib.hid hp
  obtain ⟨m1, m2, rfl⟩ := hb.len
  obtain ⟨m3, m4, rfl⟩ := hp.len
  have i0 := (Blk.new W 32 [.int .i64 a, .int .i64 r, .slice m1 bs.length m2, .slice m3 ps.length m4, .int .i64 x, .int .i64 y, .int .u64 c, .int .i64 sa, .int .i64 sr, .int .i64 sv, tx d, .int .i64 n])
  have i1 := i0.alloc (.cells #[.int .i64 a, .int .i64 r, .slice m1 bs.length m2, .slice m3 ps.length m4, .int .i64 x, .int .i64 y] 27)
  have i2 := i1.alloc (.cells #[.int .i64 sa, .int .i64 sr, .int .i64 sv, tx d] 30)
  have ia0 := i0.cell 0 rfl
  have ia1 := i0.cell 1 rfl
  have ia2 := i0.cell 2 rfl
  have ia3 := i0.cell 3 rfl
  have ia4 := i0.cell 4 rfl
  have ia5 := i0.cell 5 rfl
  have ia6 := i0.cell 6 rfl
  have ib6 := i1.cell 6 rfl
  have ib7 := i1.cell 7 rfl
  have ib8 := i1.cell 8 rfl
  have ib9 := i1.cell 9 rfl
  have ib10 := i1.cell 10 rfl
  have ib11 := i1.cell 11 rfl
  have ic11 := i2.cell 11 rfl
  have A0 := Lib.hid (by have h := (Blk.new (W.alloc (.cells #[.int .i64 a, .int .i64 r, .slice m1 bs.length m2, .slice m3 ps.length m4, .int .i64 x, .int .i64 y, .int .u64 c, .int .i64 sa, .int .i64 sr, .int .i64 sv, tx d, .int .i64 n] 32)) 27 [.int .i64 a, .int .i64 r, .slice m1 bs.length m2, .slice m3 ps.length m4, .int .i64 x, .int .i64 y]).alloc (.cells #[.int .i64 sa, .int .i64 sr, .int .i64 sv, tx d] 30); rwa [World.size_alloc] at h : Blk (((W.alloc (.cells #[.int .i64 a, .int .i64 r, .slice m1 bs.length m2, .slice m3 ps.length m4, .int .i64 x, .int .i64 y, .int .u64 c, .int .i64 sa, .int .i64 sr, .int .i64 sv, tx d, .int .i64 n] 32)).alloc (.cells #[.int .i64 a, .int .i64 r, .slice m1 bs.length m2, .slice m3 ps.length m4, .int .i64 x, .int .i64 y] 27)).alloc (.cells #[.int .i64 sa, .int .i64 sr, .int .i64 sv, tx d] 30)) (W.heap.size + 1) 27 [.int .i64 a, .int .i64 r, .slice m1 bs.length m2, .slice m3 ps.length m4, .int .i64 x, .int .i64 y])
  have B0 := Lib.hid (by have h := Blk.new ((W.alloc (.cells #[.int .i64 a, .int .i64 r, .slice m1 bs.length m2, .slice m3 ps.length m4, .int .i64 x, .int .i64 y, .int .u64 c, .int .i64 sa, .int .i64 sr, .int .i64 sv, tx d, .int .i64 n] 32)).alloc (.cells #[.int .i64 a, .int .i64 r, .slice m1 bs.length m2, .slice m3 ps.length m4, .int .i64 x, .int .i64 y] 27)) 30 [.int .i64 sa, .int .i64 sr, .int .i64 sv, tx d]; rwa [World.size_alloc, World.size_alloc] at h : Blk (((W.alloc (.cells #[.int .i64 a, .int .i64 r, .slice m1 bs.length m2, .slice m3 ps.length m4, .int .i64 x, .int .i64 y, .int .u64 c, .int .i64 sa, .int .i64 sr, .int .i64 sv, tx d, .int .i64 n] 32)).alloc (.cells #[.int .i64 a, .int .i64 r, .slice m1 bs.length m2, .slice m3 ps.length m4, .int .i64 x, .int .i64 y] 27)).alloc (.cells #[.int .i64 sa, .int .i64 sr, .int .i64 sv, tx d] 30)) (W.heap.size + 1 + 1) 30 [.int .i64 sa, .int .i64 sr, .int .i64 sv, tx d])
  have G0 := Lib.hid (show Below W.heap.size W (((W.alloc (.cells #[.int .i64 a, .int .i64 r, .slice m1 bs.length m2, .slice m3 ps.length m4, .int .i64 x, .int .i64 y, .int .u64 c, .int .i64 sa, .int .i64 sr, .int .i64 sv, tx d, .int .i64 n] 32)).alloc (.cells #[.int .i64 a, .int .i64 r, .slice m1 bs.length m2, .slice m3 ps.length m4, .int .i64 x, .int .i64 y] 27)).alloc (.cells #[.int .i64 sa, .int .i64 sr, .int .i64 sv, tx d] 30)) from (((Below.refl _ _).alloc (Nat.le_refl _) _).alloc (by simp) _).alloc (by simp; omega) _)
  simp only [] at H5 H6 H7 H8 H9 H10 H11
  generalize Po.sayR (sa, sr, sv, d) = R3 at *
  generalize Po.ballotR sa sr d = R4 at *
  obtain ⟨q3, f3⟩ := R3
  obtain ⟨q4, f4⟩ := R4
  have e1 : ∀ W, (Op.stringOp .add (⟨#[116]⟩ : ByteArray) ⟨d.toArray⟩).run Try.prog W = .ok (tx (116 :: d)) W := fun W => cat_run [116] d (by simp; omega) W
  clear hb hp mv hd hx n1 n2 i0 i1 i2
  go_enter Try.func3, Try.ntmps3
  go_wp2_with fail
  refine (postShown _).mono ?_
  rintro e w1 ⟨rfl, g1⟩
  have A1 := Lib.hid (A0.out.kept g1)
  have B1 := Lib.hid (B0.out.kept g1)
  have G1 := Lib.hid (G0.out.trans (g1.mono (by simp; omega)))
  clear g1 ia0 ia1 ia2 ia3 ia4 ia5 ia6 ib6 ib7 ib8 ib9 ib10 ib11 ic11
  have ac0 := A1.out.cell 0 rfl
  have ac1 := A1.out.cell 1 rfl
  have ac2 := A1.out.cell 2 rfl
  have ac3 := A1.out.cell 3 rfl
  have ac4 := A1.out.cell 4 rfl
  have ac5 := A1.out.cell 5 rfl
  go_wp2_with fail
  refine (H1.out _ (HB.out.below G1.out) (HP.out.below G1.out)).mono ?_
  rintro e w2 ⟨rfl, g2⟩
  have A2 := Lib.hid (A1.out.kept g2)
  have B2 := Lib.hid (B1.out.kept g2)
  have G2 := Lib.hid (grow_trans G1.out g2)
  clear g2
  clear ac0 ac1 ac2 ac3 ac4 ac5
  have ac0 := A2.out.cell 0 rfl
  have ac1 := A2.out.cell 1 rfl
  have ac2 := A2.out.cell 2 rfl
  have ac3 := A2.out.cell 3 rfl
  have ac4 := A2.out.cell 4 rfl
  have ac5 := A2.out.cell 5 rfl
  go_wp2_with fail
  refine (H2.out _ (HB.out.below G2.out) (HP.out.below G2.out)).mono ?_
  rintro e w3 ⟨rfl, g3⟩
  have A3 := Lib.hid (A2.out.kept g3)
  have B3 := Lib.hid (B2.out.kept g3)
  have G3 := Lib.hid (grow_trans G2.out g3)
  clear g3
  clear ac0 ac1 ac2 ac3 ac4 ac5
  have ac0 := A3.out.cell 0 rfl
  have ac1 := A3.out.cell 1 rfl
  have ac2 := A3.out.cell 2 rfl
  have ac3 := A3.out.cell 3 rfl
  have ac4 := A3.out.cell 4 rfl
  have ac5 := A3.out.cell 5 rfl
  go_wp2_with fail
  refine (H3.out _ (HB.out.below G3.out) (HP.out.below G3.out)).mono ?_
  rintro e w4 ⟨rfl, g4⟩
  have A4 := Lib.hid (A3.out.kept g4)
  have B4 := Lib.hid (B3.out.kept g4)
  have G4 := Lib.hid (grow_trans G3.out g4)
  clear g4
  clear ac0 ac1 ac2 ac3 ac4 ac5
  have ac0 := A4.out.cell 0 rfl
  have ac1 := A4.out.cell 1 rfl
  have ac2 := A4.out.cell 2 rfl
  have ac3 := A4.out.cell 3 rfl
  have ac4 := A4.out.cell 4 rfl
  have ac5 := A4.out.cell 5 rfl
  go_wp2_with fail
  refine (H4.out _ (HB.out.below G4.out) (HP.out.below G4.out)).mono ?_
  rintro e w5 ⟨rfl, g5⟩
  have A5 := Lib.hid (A4.out.kept g5)
  have B5 := Lib.hid (B4.out.kept g5)
  have G5 := Lib.hid (grow_trans G4.out g5)
  clear g5
  clear ac0 ac1 ac2 ac3 ac4 ac5
  have bc0 := B5.out.cell 0 rfl
  have bc1 := B5.out.cell 1 rfl
  have bc2 := B5.out.cell 2 rfl
  have bc3 := B5.out.cell 3 rfl
  go_wp2_with fail
  refine (H5.out _).mono ?_
  rintro e w6 ⟨rfl, g6⟩
  have A6 := Lib.hid (A5.out.kept g6)
  have B6 := Lib.hid (B5.out.kept g6)
  have G6 := Lib.hid (grow_trans G5.out g6)
  clear g6
  clear bc0 bc1 bc2 bc3
  have bc0 := B6.out.cell 0 rfl
  have bc1 := B6.out.cell 1 rfl
  have bc2 := B6.out.cell 2 rfl
  have bc3 := B6.out.cell 3 rfl
  go_wp2_with fail
  refine (H6.out _).mono ?_
  rintro e w7 ⟨rfl, g7⟩
  have A7 := Lib.hid (A6.out.kept g7)
  have B7 := Lib.hid (B6.out.kept g7)
  have G7 := Lib.hid (grow_trans G6.out g7)
  clear g7
  clear bc0 bc1 bc2 bc3
  have bc0 := B7.out.cell 0 rfl
  have bc1 := B7.out.cell 1 rfl
  have bc2 := B7.out.cell 2 rfl
  have bc3 := B7.out.cell 3 rfl
  go_wp2_with fail
  refine (H7.out _).mono ?_
  rintro e w8 ⟨rfl, g8⟩
  have A8 := Lib.hid (A7.out.kept g8)
  have B8 := Lib.hid (B7.out.kept g8)
  have G8 := Lib.hid (grow_trans G7.out g8)
  clear g8
  clear bc0 bc1 bc2 bc3
  have bc0 := B8.out.cell 0 rfl
  have bc1 := B8.out.cell 1 rfl
  have bc2 := B8.out.cell 2 rfl
  have bc3 := B8.out.cell 3 rfl
  go_wp2_with fail
  refine (H8.out _).mono ?_
  rintro e w9 ⟨rfl, g9⟩
  have A9 := Lib.hid (A8.out.kept g9)
  have B9 := Lib.hid (B8.out.kept g9)
  have G9 := Lib.hid (grow_trans G8.out g9)
  clear g9
  clear bc0 bc1 bc2 bc3
  have bc3 := B9.out.cell 3 rfl
  clear H1 H2 H3 H4 H5 H6 H7 H8 A0  A1  A2  A3  A4  A5  A6  A7  A8  A9  MV HB HP
  have hS : (fun w' : World => w'.cell? ⟨W.heap.size + 1 + 1, 3, none⟩ = some (tx d) ∧ Below W.heap.size W w') w9 := ⟨bc3, G9.out⟩
  have hk := Lib.hid (show ∀ X Y : World, (fun w' : World => w'.cell? ⟨W.heap.size + 1 + 1, 3, none⟩ = some (tx d) ∧ Below W.heap.size W w') X → Below X.heap.size X Y → (fun w' : World => w'.cell? ⟨W.heap.size + 1 + 1, 3, none⟩ = some (tx d) ∧ Below W.heap.size W w') Y from fun X Y ⟨k0, kb⟩ h => ⟨below_cell h k0, grow_trans kb h⟩)
  clear B0 G0 B1 G1 B2 G2 B3 G3 B4 G4 B5 G5 B6 G6 B7 G7 B8 G8 B9 G9
  go_wp2_with fail
  go_region_held3 (fun w' : World => w'.cell? ⟨W.heap.size + 1 + 1, 3, none⟩ = some (tx d) ∧ Below W.heap.size W w')
    (first | assumption | exact hk.out _ _ hS (Below.drew (Below.refl _ _)))
    (first
      | (go_at_call 18; refine (H9.out _).mono ?_; rintro e wz ⟨rfl, rfl⟩)
      | (go_at_call 19; refine (H10.out _).mono ?_; rintro e wz ⟨rfl, rfl⟩)
      | (go_at_call 20; refine (H11.out _).mono ?_; rintro e wz ⟨rfl, rfl⟩))
  all_goals
    go_wp2_with fail
    go_ret
    exact ⟨rfl, (show (fun w' : World => w'.cell? ⟨W.heap.size + 1 + 1, 3, none⟩ = some (tx d) ∧ Below W.heap.size W w') _ by assumption).2⟩

theorem postWrites_walk {H : Type} (enc : TypeId × Value → H) (W : World) (base : Nat) (v0 : Value) (d0 : DataW H) (p0 : List MemPlace)
    (h0 : DataW.Trod enc Try.prog W 0 (fun _ => true) true 32 v0 d0 p0) (o0 : Value.okWide Try.prog W .any base 32 v0)
    (hsz : (DataW.weightsEach Try.prog [32] [d0]).all (· ≤ reachBytes) = true) :
    Calls Try.prog 3 #[v0] W fun e W' => e = .returned (.bool true) ∧ Below W.heap.size W W' := by
  obtain ⟨cs, rfl, hs⟩ := okWide_struct Try.underlying32 o0
  obtain ⟨fuel, hn⟩ := h0
  have hC : Try.prog.cellsOf 32 = 12 := by kernel_rfl
  have k1 : Try.prog.cellsOf 27 = 6 := by kernel_rfl
  have k2 : Try.prog.cellsOf 28 = 1 := by kernel_rfl
  have k3 : Try.prog.cellsOf 30 = 4 := by kernel_rfl
  have k4 : Try.prog.cellsOf 3 = 1 := by kernel_rfl
  have k5 : Try.prog.cellsOf 9 = 1 := by kernel_rfl
  obtain ⟨xs, m, _, hx, _, hlen, hf⟩ := DataW.trod_struct Try.underlying32 hn
  have hl : cs.toList.length = 12 := by simpa using hs.trans hC
  simp only [Value.cells] at hf
  obtain ⟨cl⟩ := cs
  simp only at hl hf
  simp only [Prod.mk.injEq] at hx
  obtain ⟨rfl, _⟩ := hx
  have hw := sized_at hsz (j := 0) rfl rfl
  match cl, hl, xs, hlen with
  | [e0, e1, e2, e3, e4, e5, e6, e7, e8, e9, e10, e11], _, [y0, y1, y2, y3], _ =>
    have h0 := hf 0 _ rfl
    have h1 := hf 1 _ rfl
    have h2 := hf 2 _ rfl
    have h3 := hf 3 _ rfl
    simp only [List.map_cons, List.map_nil, DataW.weights, Try.underlying32] at hw
    obtain ⟨v, bv, pv, he, hb, hp, l1, l2, l3⟩ := elem_vtx (W := W) m [e0, e1, e2, e3, e4, e5] y0 rfl (by simpa [k1] using h0) (sized_at hw (j := 0) rfl rfl)
    simp only [List.cons.injEq, and_true] at he
    obtain ⟨rfl, rfl, rfl, rfl, rfl, rfl⟩ := he
    obtain ⟨c, c1, rfl, _⟩ := trod_u64 (v := e6) (y := y1) Try.underlying28 (by simpa [k1, k2] using h1)
    obtain ⟨zs, m', _, hz, _, hlen', hf'⟩ := DataW.trod_struct Try.underlying30 (show DataW.trod enc Try.prog W 0 (fun _ => true) true m 30 [e7, e8, e9, e10] = some y2 by simpa [k1, k2, k3] using h2)
    match zs, hlen' with
    | [z0, z1, z2, z3], _ =>
      have g0 := hf' 0 _ rfl
      have g1 := hf' 1 _ rfl
      have g2 := hf' 2 _ rfl
      have g3 := hf' 3 _ rfl
      have hy2 := congrArg Prod.fst hz
      dsimp only at hy2
      obtain ⟨sa, a1, a2, rfl, _⟩ := trod_i64 (v := e7) (y := z0) Try.underlying3 (by simpa [k4] using g0)
      obtain ⟨sr, r1, r2, rfl, _⟩ := trod_i64 (v := e8) (y := z1) Try.underlying3 (by simpa [k4] using g1)
      obtain ⟨sv, v1, v2, rfl, _⟩ := trod_i64 (v := e9) (y := z2) Try.underlying3 (by simpa [k4] using g2)
      obtain ⟨d, rfl, hd⟩ := trod_tx (v := e10) (y := z3) Try.underlying9 (by simpa [k4, k5] using g3)
      obtain ⟨n, n1, n2, rfl, _⟩ := trod_i64 (v := e11) (y := y3) Try.underlying3 (by simpa [k1, k2, k3, k4] using h3)
      have hw2 := sized_at hw (j := 2) rfl rfl
      rw [hy2] at hw2
      simp only [List.map_cons, List.map_nil, DataW.weights, Try.underlying30] at hw2
      have hdl := sized_string hw2 (j := 3) rfl (by rw [hd]; rfl)
      exact postWrites_core v (sa, sr, sv, d) c n _ _ W hb hp ⟨by show v.2.2.1.length ≤ 140737488351232; omega, l2, by show v.2.2.2.1.length ≤ 140737488351232; omega⟩ c1 hdl n1 n2
end Go.Proofs.Ytbkpekpajeaacaa
