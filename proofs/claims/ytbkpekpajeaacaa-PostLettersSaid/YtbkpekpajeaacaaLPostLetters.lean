/- PostLetters: the walk. -/
import Derived.Test.YtbkpekpajeaacaaPostC
import Derived.Test.YtbkpekpajeaacaaGDig
namespace Go.Proofs.Ytbkpekpajeaacaa
open Go.RowKit Go.ChangeShapes Go.WideShapes Go.ChangeAt
set_option maxRecDepth 100000
attribute [local go_sem] ByteArray.mk_append_mk

set_option maxHeartbeats 8000000 in
theorem postLetters_core (v : Vt.Vtx) (s : Po.S) (c : Nat) (n : Int) (bv pv : Value) (W : World) (hb : BtsAt W bv v.2.2.1) (hp : TxAt W pv v.2.2.2.1) (mv : Vt.Mod v) (hx : c < 18446744073709551616) (hd : s.2.2.2.length ≤ 140737488351232) (n1 : -9223372036854775808 ≤ n) (n2 : n ≤ 9223372036854775807) :
    Calls Try.prog 8 #[.agg #[.int .i64 v.1, .int .i64 v.2.1, bv, pv, .int .i64 v.2.2.2.2.1, .int .i64 v.2.2.2.2.2, .int .u64 c, .int .i64 s.1, .int .i64 s.2.1, .int .i64 s.2.2.1, tx s.2.2.2, .int .i64 n]] W fun e W' => e = .returned (.bool true) ∧ Below W.heap.size W W' := by
  have H1 := Lib.hid (fun W hb hp => pheaderV v bv pv n W hb hp mv n1 n2)
  have H2 := Lib.hid (fun W hb hp => pproofP (v, c) bv pv n W hb hp mv hx n1 n2)
  have O1 := Po.lettered_or 104 (Vt.bytesR v n)
  have O2 := Po.lettered_or 99 (Cr.bytesR (v, c) n)
  have O3 := Po.sayR_or s
  have O4 := Po.ballotR_or s.1 s.2.1 s.2.2.2
  have H3 := Lib.hid (fun W => psay s.1 s.2.1 s.2.2.1 s.2.2.2 W)
  have H4 := Lib.hid (fun W => pballot s.1 s.2.1 s.2.2.2 W)
  have H5 := Lib.hid (fun W => ptx s.2.2.2 hd W)
  have H6 := Lib.hid (fun W => pkind_eq (s := 116 :: s.2.2.2) (c := 116) rfl W)
  have OO := Lib.hid (And.intro O1 (And.intro O2 (And.intro O3 O4)))
  clear O1 O2 O3 O4
  generalize Po.lettered 104 (Vt.bytesR v n) = R1 at *
  generalize Po.lettered 99 (Cr.bytesR (v, c) n) = R2 at *
  obtain ⟨q1, f1⟩ := R1
  obtain ⟨q2, f2⟩ := R2
  obtain ⟨a, r, bs, ps, x, y⟩ := v
  obtain ⟨sa, sr, sv, d⟩ := s
  simp only [] at hb hp hd
  have MV := Lib.hid mv
  have HB := Lib.hid hb
  have HP := Lib.hid hp
  obtain ⟨m1, m2, rfl⟩ := hb.len
  obtain ⟨m3, m4, rfl⟩ := hp.len
  have i0 := (Blk.new W 77 [.int .i64 a, .int .i64 r, .slice m1 bs.length m2, .slice m3 ps.length m4, .int .i64 x, .int .i64 y, .int .u64 c, .int .i64 sa, .int .i64 sr, .int .i64 sv, tx d, .int .i64 n])
  have i1 := i0.alloc (.cells #[.int .i64 a, .int .i64 r, .slice m1 bs.length m2, .slice m3 ps.length m4, .int .i64 x, .int .i64 y] 27)
  have i2 := i1.alloc (.cells #[.int .i64 sa, .int .i64 sr, .int .i64 sv, tx d] 30)
  have ia0 := i0.cell 0 rfl
  have ia1 := i0.cell 1 rfl
  have ia2 := i0.cell 2 rfl
  have ia3 := i0.cell 3 rfl
  have ia4 := i0.cell 4 rfl
  have ia5 := i0.cell 5 rfl
  have ia6 := i0.cell 6 rfl
  have ib6 := i1.cell 6 rfl
  have ib7 := i1.cell 7 rfl
  have ib8 := i1.cell 8 rfl
  have ib9 := i1.cell 9 rfl
  have ib10 := i1.cell 10 rfl
  have ib11 := i1.cell 11 rfl
  have ic11 := i2.cell 11 rfl
  have A0 := Lib.hid (by have h := (Blk.new (W.alloc (.cells #[.int .i64 a, .int .i64 r, .slice m1 bs.length m2, .slice m3 ps.length m4, .int .i64 x, .int .i64 y, .int .u64 c, .int .i64 sa, .int .i64 sr, .int .i64 sv, tx d, .int .i64 n] 77)) 27 [.int .i64 a, .int .i64 r, .slice m1 bs.length m2, .slice m3 ps.length m4, .int .i64 x, .int .i64 y]).alloc (.cells #[.int .i64 sa, .int .i64 sr, .int .i64 sv, tx d] 30); rwa [World.size_alloc] at h : Blk (((W.alloc (.cells #[.int .i64 a, .int .i64 r, .slice m1 bs.length m2, .slice m3 ps.length m4, .int .i64 x, .int .i64 y, .int .u64 c, .int .i64 sa, .int .i64 sr, .int .i64 sv, tx d, .int .i64 n] 77)).alloc (.cells #[.int .i64 a, .int .i64 r, .slice m1 bs.length m2, .slice m3 ps.length m4, .int .i64 x, .int .i64 y] 27)).alloc (.cells #[.int .i64 sa, .int .i64 sr, .int .i64 sv, tx d] 30)) (W.heap.size + 1) 27 [.int .i64 a, .int .i64 r, .slice m1 bs.length m2, .slice m3 ps.length m4, .int .i64 x, .int .i64 y])
  have B0 := Lib.hid (by have h := Blk.new ((W.alloc (.cells #[.int .i64 a, .int .i64 r, .slice m1 bs.length m2, .slice m3 ps.length m4, .int .i64 x, .int .i64 y, .int .u64 c, .int .i64 sa, .int .i64 sr, .int .i64 sv, tx d, .int .i64 n] 77)).alloc (.cells #[.int .i64 a, .int .i64 r, .slice m1 bs.length m2, .slice m3 ps.length m4, .int .i64 x, .int .i64 y] 27)) 30 [.int .i64 sa, .int .i64 sr, .int .i64 sv, tx d]; rwa [World.size_alloc, World.size_alloc] at h : Blk (((W.alloc (.cells #[.int .i64 a, .int .i64 r, .slice m1 bs.length m2, .slice m3 ps.length m4, .int .i64 x, .int .i64 y, .int .u64 c, .int .i64 sa, .int .i64 sr, .int .i64 sv, tx d, .int .i64 n] 77)).alloc (.cells #[.int .i64 a, .int .i64 r, .slice m1 bs.length m2, .slice m3 ps.length m4, .int .i64 x, .int .i64 y] 27)).alloc (.cells #[.int .i64 sa, .int .i64 sr, .int .i64 sv, tx d] 30)) (W.heap.size + 1 + 1) 30 [.int .i64 sa, .int .i64 sr, .int .i64 sv, tx d])
  have G0 := Lib.hid (show Below W.heap.size W (((W.alloc (.cells #[.int .i64 a, .int .i64 r, .slice m1 bs.length m2, .slice m3 ps.length m4, .int .i64 x, .int .i64 y, .int .u64 c, .int .i64 sa, .int .i64 sr, .int .i64 sv, tx d, .int .i64 n] 77)).alloc (.cells #[.int .i64 a, .int .i64 r, .slice m1 bs.length m2, .slice m3 ps.length m4, .int .i64 x, .int .i64 y] 27)).alloc (.cells #[.int .i64 sa, .int .i64 sr, .int .i64 sv, tx d] 30)) from (((Below.refl _ _).alloc (Nat.le_refl _) _).alloc (by simp) _).alloc (by simp; omega) _)
  simp only [] at H3 H4 H5 H6 OO
  generalize Po.sayR (sa, sr, sv, d) = R3 at *
  generalize Po.ballotR sa sr d = R4 at *
  obtain ⟨q3, f3⟩ := R3
  obtain ⟨q4, f4⟩ := R4
  have H7 := Lib.hid (fun W => rkind q1 W)
  have H8 := Lib.hid (fun W => pkind q1 W)
  have e7 : ∀ (q : UInt8), ((q.toNat : Int) == (q.toNat : Int)) = true := fun q => by rw [beq_iff_eq]
  clear hb hp mv hd hx n1 n2 i0 i1 i2
  go_enter Try.func8, Try.ntmps8
  go_wp2_with fail
  refine (postShown _).mono ?_
  rintro e w1 ⟨rfl, g1⟩
  have A1 := Lib.hid (A0.out.kept g1)
  have B1 := Lib.hid (B0.out.kept g1)
  have G1 := Lib.hid (G0.out.trans (g1.mono (by simp; omega)))
  clear g1 ia0 ia1 ia2 ia3 ia4 ia5 ia6 ib6 ib7 ib8 ib9 ib10 ib11 ic11
  have ac0 := A1.out.cell 0 rfl
  have ac1 := A1.out.cell 1 rfl
  have ac2 := A1.out.cell 2 rfl
  have ac3 := A1.out.cell 3 rfl
  have ac4 := A1.out.cell 4 rfl
  have ac5 := A1.out.cell 5 rfl
  go_wp2_with fail
  refine (H1.out _ (HB.out.below G1.out) (HP.out.below G1.out)).mono ?_
  rintro e w2 ⟨rfl, g2⟩
  have A2 := Lib.hid (A1.out.kept g2)
  have B2 := Lib.hid (B1.out.kept g2)
  have G2 := Lib.hid (grow_trans G1.out g2)
  clear g2
  clear ac0 ac1 ac2 ac3 ac4 ac5
  have ac0 := A2.out.cell 0 rfl
  have ac1 := A2.out.cell 1 rfl
  have ac2 := A2.out.cell 2 rfl
  have ac3 := A2.out.cell 3 rfl
  have ac4 := A2.out.cell 4 rfl
  have ac5 := A2.out.cell 5 rfl
  go_wp2_with fail
  refine (H2.out _ (HB.out.below G2.out) (HP.out.below G2.out)).mono ?_
  rintro e w3 ⟨rfl, g3⟩
  have A3 := Lib.hid (A2.out.kept g3)
  have B3 := Lib.hid (B2.out.kept g3)
  have G3 := Lib.hid (grow_trans G2.out g3)
  clear g3
  clear ac0 ac1 ac2 ac3 ac4 ac5
  have bc0 := B3.out.cell 0 rfl
  have bc1 := B3.out.cell 1 rfl
  have bc2 := B3.out.cell 2 rfl
  have bc3 := B3.out.cell 3 rfl
  go_wp2_with fail
  refine (H3.out _).mono ?_
  rintro e w4 ⟨rfl, g4⟩
  have A4 := Lib.hid (A3.out.kept g4)
  have B4 := Lib.hid (B3.out.kept g4)
  have G4 := Lib.hid (grow_trans G3.out g4)
  clear g4
  clear bc0 bc1 bc2 bc3
  have bc0 := B4.out.cell 0 rfl
  have bc1 := B4.out.cell 1 rfl
  have bc2 := B4.out.cell 2 rfl
  have bc3 := B4.out.cell 3 rfl
  go_wp2_with fail
  refine (H4.out _).mono ?_
  rintro e w5 ⟨rfl, g5⟩
  have A5 := Lib.hid (A4.out.kept g5)
  have B5 := Lib.hid (B4.out.kept g5)
  have G5 := Lib.hid (grow_trans G4.out g5)
  clear g5
  clear bc0 bc1 bc2 bc3
  have bc3 := B5.out.cell 3 rfl
  obtain ⟨O1, O2, O3, O4⟩ := OO.out
  (try dsimp only at O1 O2 O3 O4)
  clear OO H1 H2 H3 H4 A0  A1  A2  A3  A4  A5  MV HB HP
  rcases O1 with ⟨z1, k1⟩ | z1
  · subst z1
    have K1 := Lib.hid (fun W => pkind_eq (c := 104) k1 W)
    clear k1
    rcases O2 with ⟨z2, k2⟩ | z2
    · subst z2
      have K2 := Lib.hid (fun W => pkind_eq (c := 99) k2 W)
      clear k2
      rcases O3 with ⟨z3, k3⟩ | z3
      · subst z3
        have K3 := Lib.hid (fun W => pkind_eq (c := 121) k3 W)
        clear k3
        rcases O4 with ⟨z4, k4⟩ | z4
        · subst z4
          have K4 := Lib.hid (fun W => pkind_eq (c := 118) k4 W)
          clear k4
          go_wp2_with fail
          refine (K1.out _).mono ?_
          rintro e w9 ⟨rfl, rfl⟩
          go_wp2_with fail
          refine (K2.out _).mono ?_
          rintro e w9 ⟨rfl, rfl⟩
          go_wp2_with fail
          refine (K3.out _).mono ?_
          rintro e w9 ⟨rfl, rfl⟩
          go_wp2_with fail
          refine (K4.out _).mono ?_
          rintro e w9 ⟨rfl, rfl⟩
          go_wp2_with fail
          refine (H5.out _).mono ?_
          rintro e w9 ⟨rfl, rfl⟩
          go_wp2_with fail
          refine (H6.out _).mono ?_
          rintro e w9 ⟨rfl, rfl⟩
          go_wp2_with fail
          refine (H7.out _).mono ?_
          rintro e w9 ⟨rfl, rfl⟩
          go_wp2_with fail
          refine (H8.out _).mono ?_
          rintro e w9 ⟨rfl, rfl⟩
          go_wp2
          go_ret
          exact ⟨rfl, G5.out⟩
        · have t4 : ((f4 : Int) != 0) = true := by rw [bne_iff_ne]; omega
          clear z4
          go_wp2_with fail
          refine (K1.out _).mono ?_
          rintro e w9 ⟨rfl, rfl⟩
          go_wp2_with fail
          refine (K2.out _).mono ?_
          rintro e w9 ⟨rfl, rfl⟩
          go_wp2_with fail
          refine (K3.out _).mono ?_
          rintro e w9 ⟨rfl, rfl⟩
          go_wp2_with fail
          refine (H5.out _).mono ?_
          rintro e w9 ⟨rfl, rfl⟩
          go_wp2_with fail
          refine (H6.out _).mono ?_
          rintro e w9 ⟨rfl, rfl⟩
          go_wp2_with fail
          refine (H7.out _).mono ?_
          rintro e w9 ⟨rfl, rfl⟩
          go_wp2_with fail
          refine (H8.out _).mono ?_
          rintro e w9 ⟨rfl, rfl⟩
          go_wp2
          go_ret
          exact ⟨rfl, G5.out⟩
      · have t3 : ((f3 : Int) != 0) = true := by rw [bne_iff_ne]; omega
        clear z3
        rcases O4 with ⟨z4, k4⟩ | z4
        · subst z4
          have K4 := Lib.hid (fun W => pkind_eq (c := 118) k4 W)
          clear k4
          go_wp2_with fail
          refine (K1.out _).mono ?_
          rintro e w9 ⟨rfl, rfl⟩
          go_wp2_with fail
          refine (K2.out _).mono ?_
          rintro e w9 ⟨rfl, rfl⟩
          go_wp2_with fail
          refine (K4.out _).mono ?_
          rintro e w9 ⟨rfl, rfl⟩
          go_wp2_with fail
          refine (H5.out _).mono ?_
          rintro e w9 ⟨rfl, rfl⟩
          go_wp2_with fail
          refine (H6.out _).mono ?_
          rintro e w9 ⟨rfl, rfl⟩
          go_wp2_with fail
          refine (H7.out _).mono ?_
          rintro e w9 ⟨rfl, rfl⟩
          go_wp2_with fail
          refine (H8.out _).mono ?_
          rintro e w9 ⟨rfl, rfl⟩
          go_wp2
          go_ret
          exact ⟨rfl, G5.out⟩
        · have t4 : ((f4 : Int) != 0) = true := by rw [bne_iff_ne]; omega
          clear z4
          go_wp2_with fail
          refine (K1.out _).mono ?_
          rintro e w9 ⟨rfl, rfl⟩
          go_wp2_with fail
          refine (K2.out _).mono ?_
          rintro e w9 ⟨rfl, rfl⟩
          go_wp2_with fail
          refine (H5.out _).mono ?_
          rintro e w9 ⟨rfl, rfl⟩
          go_wp2_with fail
          refine (H6.out _).mono ?_
          rintro e w9 ⟨rfl, rfl⟩
          go_wp2_with fail
          refine (H7.out _).mono ?_
          rintro e w9 ⟨rfl, rfl⟩
          go_wp2_with fail
          refine (H8.out _).mono ?_
          rintro e w9 ⟨rfl, rfl⟩
          go_wp2
          go_ret
          exact ⟨rfl, G5.out⟩
    · have t2 : ((f2 : Int) != 0) = true := by rw [bne_iff_ne]; omega
      clear z2
      rcases O3 with ⟨z3, k3⟩ | z3
      · subst z3
        have K3 := Lib.hid (fun W => pkind_eq (c := 121) k3 W)
        clear k3
        rcases O4 with ⟨z4, k4⟩ | z4
        · subst z4
          have K4 := Lib.hid (fun W => pkind_eq (c := 118) k4 W)
          clear k4
          go_wp2_with fail
          refine (K1.out _).mono ?_
          rintro e w9 ⟨rfl, rfl⟩
          go_wp2_with fail
          refine (K3.out _).mono ?_
          rintro e w9 ⟨rfl, rfl⟩
          go_wp2_with fail
          refine (K4.out _).mono ?_
          rintro e w9 ⟨rfl, rfl⟩
          go_wp2_with fail
          refine (H5.out _).mono ?_
          rintro e w9 ⟨rfl, rfl⟩
          go_wp2_with fail
          refine (H6.out _).mono ?_
          rintro e w9 ⟨rfl, rfl⟩
          go_wp2_with fail
          refine (H7.out _).mono ?_
          rintro e w9 ⟨rfl, rfl⟩
          go_wp2_with fail
          refine (H8.out _).mono ?_
          rintro e w9 ⟨rfl, rfl⟩
          go_wp2
          go_ret
          exact ⟨rfl, G5.out⟩
        · have t4 : ((f4 : Int) != 0) = true := by rw [bne_iff_ne]; omega
          clear z4
          go_wp2_with fail
          refine (K1.out _).mono ?_
          rintro e w9 ⟨rfl, rfl⟩
          go_wp2_with fail
          refine (K3.out _).mono ?_
          rintro e w9 ⟨rfl, rfl⟩
          go_wp2_with fail
          refine (H5.out _).mono ?_
          rintro e w9 ⟨rfl, rfl⟩
          go_wp2_with fail
          refine (H6.out _).mono ?_
          rintro e w9 ⟨rfl, rfl⟩
          go_wp2_with fail
          refine (H7.out _).mono ?_
          rintro e w9 ⟨rfl, rfl⟩
          go_wp2_with fail
          refine (H8.out _).mono ?_
          rintro e w9 ⟨rfl, rfl⟩
          go_wp2
          go_ret
          exact ⟨rfl, G5.out⟩
      · have t3 : ((f3 : Int) != 0) = true := by rw [bne_iff_ne]; omega
        clear z3
        rcases O4 with ⟨z4, k4⟩ | z4
        · subst z4
          have K4 := Lib.hid (fun W => pkind_eq (c := 118) k4 W)
          clear k4
          go_wp2_with fail
          refine (K1.out _).mono ?_
          rintro e w9 ⟨rfl, rfl⟩
          go_wp2_with fail
          refine (K4.out _).mono ?_
          rintro e w9 ⟨rfl, rfl⟩
          go_wp2_with fail
          refine (H5.out _).mono ?_
          rintro e w9 ⟨rfl, rfl⟩
          go_wp2_with fail
          refine (H6.out _).mono ?_
          rintro e w9 ⟨rfl, rfl⟩
          go_wp2_with fail
          refine (H7.out _).mono ?_
          rintro e w9 ⟨rfl, rfl⟩
          go_wp2_with fail
          refine (H8.out _).mono ?_
          rintro e w9 ⟨rfl, rfl⟩
          go_wp2
          go_ret
          exact ⟨rfl, G5.out⟩
        · have t4 : ((f4 : Int) != 0) = true := by rw [bne_iff_ne]; omega
          clear z4
          go_wp2_with fail
          refine (K1.out _).mono ?_
          rintro e w9 ⟨rfl, rfl⟩
          go_wp2_with fail
          refine (H5.out _).mono ?_
          rintro e w9 ⟨rfl, rfl⟩
          go_wp2_with fail
          refine (H6.out _).mono ?_
          rintro e w9 ⟨rfl, rfl⟩
          go_wp2_with fail
          refine (H7.out _).mono ?_
          rintro e w9 ⟨rfl, rfl⟩
          go_wp2_with fail
          refine (H8.out _).mono ?_
          rintro e w9 ⟨rfl, rfl⟩
          go_wp2
          go_ret
          exact ⟨rfl, G5.out⟩
  · have t1 : ((f1 : Int) != 0) = true := by rw [bne_iff_ne]; omega
    clear z1
    rcases O2 with ⟨z2, k2⟩ | z2
    · subst z2
      have K2 := Lib.hid (fun W => pkind_eq (c := 99) k2 W)
      clear k2
      rcases O3 with ⟨z3, k3⟩ | z3
      · subst z3
        have K3 := Lib.hid (fun W => pkind_eq (c := 121) k3 W)
        clear k3
        rcases O4 with ⟨z4, k4⟩ | z4
        · subst z4
          have K4 := Lib.hid (fun W => pkind_eq (c := 118) k4 W)
          clear k4
          go_wp2_with fail
          refine (K2.out _).mono ?_
          rintro e w9 ⟨rfl, rfl⟩
          go_wp2_with fail
          refine (K3.out _).mono ?_
          rintro e w9 ⟨rfl, rfl⟩
          go_wp2_with fail
          refine (K4.out _).mono ?_
          rintro e w9 ⟨rfl, rfl⟩
          go_wp2_with fail
          refine (H5.out _).mono ?_
          rintro e w9 ⟨rfl, rfl⟩
          go_wp2_with fail
          refine (H6.out _).mono ?_
          rintro e w9 ⟨rfl, rfl⟩
          go_wp2_with fail
          refine (H7.out _).mono ?_
          rintro e w9 ⟨rfl, rfl⟩
          go_wp2_with fail
          refine (H8.out _).mono ?_
          rintro e w9 ⟨rfl, rfl⟩
          go_wp2
          go_ret
          exact ⟨rfl, G5.out⟩
        · have t4 : ((f4 : Int) != 0) = true := by rw [bne_iff_ne]; omega
          clear z4
          go_wp2_with fail
          refine (K2.out _).mono ?_
          rintro e w9 ⟨rfl, rfl⟩
          go_wp2_with fail
          refine (K3.out _).mono ?_
          rintro e w9 ⟨rfl, rfl⟩
          go_wp2_with fail
          refine (H5.out _).mono ?_
          rintro e w9 ⟨rfl, rfl⟩
          go_wp2_with fail
          refine (H6.out _).mono ?_
          rintro e w9 ⟨rfl, rfl⟩
          go_wp2_with fail
          refine (H7.out _).mono ?_
          rintro e w9 ⟨rfl, rfl⟩
          go_wp2_with fail
          refine (H8.out _).mono ?_
          rintro e w9 ⟨rfl, rfl⟩
          go_wp2
          go_ret
          exact ⟨rfl, G5.out⟩
      · have t3 : ((f3 : Int) != 0) = true := by rw [bne_iff_ne]; omega
        clear z3
        rcases O4 with ⟨z4, k4⟩ | z4
        · subst z4
          have K4 := Lib.hid (fun W => pkind_eq (c := 118) k4 W)
          clear k4
          go_wp2_with fail
          refine (K2.out _).mono ?_
          rintro e w9 ⟨rfl, rfl⟩
          go_wp2_with fail
          refine (K4.out _).mono ?_
          rintro e w9 ⟨rfl, rfl⟩
          go_wp2_with fail
          refine (H5.out _).mono ?_
          rintro e w9 ⟨rfl, rfl⟩
          go_wp2_with fail
          refine (H6.out _).mono ?_
          rintro e w9 ⟨rfl, rfl⟩
          go_wp2_with fail
          refine (H7.out _).mono ?_
          rintro e w9 ⟨rfl, rfl⟩
          go_wp2_with fail
          refine (H8.out _).mono ?_
          rintro e w9 ⟨rfl, rfl⟩
          go_wp2
          go_ret
          exact ⟨rfl, G5.out⟩
        · have t4 : ((f4 : Int) != 0) = true := by rw [bne_iff_ne]; omega
          clear z4
          go_wp2_with fail
          refine (K2.out _).mono ?_
          rintro e w9 ⟨rfl, rfl⟩
          go_wp2_with fail
          refine (H5.out _).mono ?_
          rintro e w9 ⟨rfl, rfl⟩
          go_wp2_with fail
          refine (H6.out _).mono ?_
          rintro e w9 ⟨rfl, rfl⟩
          go_wp2_with fail
          refine (H7.out _).mono ?_
          rintro e w9 ⟨rfl, rfl⟩
          go_wp2_with fail
          refine (H8.out _).mono ?_
          rintro e w9 ⟨rfl, rfl⟩
          go_wp2
          go_ret
          exact ⟨rfl, G5.out⟩
    · have t2 : ((f2 : Int) != 0) = true := by rw [bne_iff_ne]; omega
      clear z2
      rcases O3 with ⟨z3, k3⟩ | z3
      · subst z3
        have K3 := Lib.hid (fun W => pkind_eq (c := 121) k3 W)
        clear k3
        rcases O4 with ⟨z4, k4⟩ | z4
        · subst z4
          have K4 := Lib.hid (fun W => pkind_eq (c := 118) k4 W)
          clear k4
          go_wp2_with fail
          refine (K3.out _).mono ?_
          rintro e w9 ⟨rfl, rfl⟩
          go_wp2_with fail
          refine (K4.out _).mono ?_
          rintro e w9 ⟨rfl, rfl⟩
          go_wp2_with fail
          refine (H5.out _).mono ?_
          rintro e w9 ⟨rfl, rfl⟩
          go_wp2_with fail
          refine (H6.out _).mono ?_
          rintro e w9 ⟨rfl, rfl⟩
          go_wp2_with fail
          refine (H7.out _).mono ?_
          rintro e w9 ⟨rfl, rfl⟩
          go_wp2_with fail
          refine (H8.out _).mono ?_
          rintro e w9 ⟨rfl, rfl⟩
          go_wp2
          go_ret
          exact ⟨rfl, G5.out⟩
        · have t4 : ((f4 : Int) != 0) = true := by rw [bne_iff_ne]; omega
          clear z4
          go_wp2_with fail
          refine (K3.out _).mono ?_
          rintro e w9 ⟨rfl, rfl⟩
          go_wp2_with fail
          refine (H5.out _).mono ?_
          rintro e w9 ⟨rfl, rfl⟩
          go_wp2_with fail
          refine (H6.out _).mono ?_
          rintro e w9 ⟨rfl, rfl⟩
          go_wp2_with fail
          refine (H7.out _).mono ?_
          rintro e w9 ⟨rfl, rfl⟩
          go_wp2_with fail
          refine (H8.out _).mono ?_
          rintro e w9 ⟨rfl, rfl⟩
          go_wp2
          go_ret
          exact ⟨rfl, G5.out⟩
      · have t3 : ((f3 : Int) != 0) = true := by rw [bne_iff_ne]; omega
        clear z3
        rcases O4 with ⟨z4, k4⟩ | z4
        · subst z4
          have K4 := Lib.hid (fun W => pkind_eq (c := 118) k4 W)
          clear k4
          go_wp2_with fail
          refine (K4.out _).mono ?_
          rintro e w9 ⟨rfl, rfl⟩
          go_wp2_with fail
          refine (H5.out _).mono ?_
          rintro e w9 ⟨rfl, rfl⟩
          go_wp2_with fail
          refine (H6.out _).mono ?_
          rintro e w9 ⟨rfl, rfl⟩
          go_wp2_with fail
          refine (H7.out _).mono ?_
          rintro e w9 ⟨rfl, rfl⟩
          go_wp2_with fail
          refine (H8.out _).mono ?_
          rintro e w9 ⟨rfl, rfl⟩
          go_wp2
          go_ret
          exact ⟨rfl, G5.out⟩
        · have t4 : ((f4 : Int) != 0) = true := by rw [bne_iff_ne]; omega
          clear z4
          go_wp2_with fail
          refine (H5.out _).mono ?_
          rintro e w9 ⟨rfl, rfl⟩
          go_wp2_with fail
          refine (H6.out _).mono ?_
          rintro e w9 ⟨rfl, rfl⟩
          go_wp2_with fail
          refine (H7.out _).mono ?_
          rintro e w9 ⟨rfl, rfl⟩
          go_wp2_with fail
          refine (H8.out _).mono ?_
          rintro e w9 ⟨rfl, rfl⟩
          go_wp2
          go_ret
          exact ⟨rfl, G5.out⟩

theorem postLetters_walk {H : Type} (enc : TypeId × Value → H) (W : World) (base : Nat) (v0 : Value) (d0 : DataW H) (p0 : List MemPlace)
    (h0 : DataW.Trod enc Try.prog W 0 (fun _ => true) true 77 v0 d0 p0) (o0 : Value.okWide Try.prog W .any base 77 v0)
    (hsz : (DataW.weightsEach Try.prog [77] [d0]).all (· ≤ reachBytes) = true) :
    Calls Try.prog 8 #[v0] W fun e W' => e = .returned (.bool true) ∧ Below W.heap.size W W' := by
  obtain ⟨cs, rfl, hs⟩ := okWide_struct Try.underlying77 o0
  obtain ⟨fuel, hn⟩ := h0
  have hC : Try.prog.cellsOf 77 = 12 := by kernel_rfl
  have k1 : Try.prog.cellsOf 27 = 6 := by kernel_rfl
  have k2 : Try.prog.cellsOf 28 = 1 := by kernel_rfl
  have k3 : Try.prog.cellsOf 30 = 4 := by kernel_rfl
  have k4 : Try.prog.cellsOf 3 = 1 := by kernel_rfl
  have k5 : Try.prog.cellsOf 9 = 1 := by kernel_rfl
  obtain ⟨xs, m, _, hx, _, hlen, hf⟩ := DataW.trod_struct Try.underlying77 hn
  have hl : cs.toList.length = 12 := by simpa using hs.trans hC
  simp only [Value.cells] at hf
  obtain ⟨cl⟩ := cs
  simp only at hl hf
  simp only [Prod.mk.injEq] at hx
  obtain ⟨rfl, _⟩ := hx
  have hw := sized_at hsz (j := 0) rfl rfl
  match cl, hl, xs, hlen with
  | [e0, e1, e2, e3, e4, e5, e6, e7, e8, e9, e10, e11], _, [y0, y1, y2, y3], _ =>
    have h0 := hf 0 _ rfl
    have h1 := hf 1 _ rfl
    have h2 := hf 2 _ rfl
    have h3 := hf 3 _ rfl
    simp only [List.map_cons, List.map_nil, DataW.weights, Try.underlying77] at hw
    obtain ⟨v, bv, pv, he, hb, hp, l1, l2, l3⟩ := elem_vtx (W := W) m [e0, e1, e2, e3, e4, e5] y0 rfl (by simpa [k1] using h0) (sized_at hw (j := 0) rfl rfl)
    simp only [List.cons.injEq, and_true] at he
    obtain ⟨rfl, rfl, rfl, rfl, rfl, rfl⟩ := he
    obtain ⟨c, c1, rfl, _⟩ := trod_u64 (v := e6) (y := y1) Try.underlying28 (by simpa [k1, k2] using h1)
    obtain ⟨zs, m', _, hz, _, hlen', hf'⟩ := DataW.trod_struct Try.underlying30 (show DataW.trod enc Try.prog W 0 (fun _ => true) true m 30 [e7, e8, e9, e10] = some y2 by simpa [k1, k2, k3] using h2)
    match zs, hlen' with
    | [z0, z1, z2, z3], _ =>
      have g0 := hf' 0 _ rfl
      have g1 := hf' 1 _ rfl
      have g2 := hf' 2 _ rfl
      have g3 := hf' 3 _ rfl
      have hy2 := congrArg Prod.fst hz
      dsimp only at hy2
      obtain ⟨sa, a1, a2, rfl, _⟩ := trod_i64 (v := e7) (y := z0) Try.underlying3 (by simpa [k4] using g0)
      obtain ⟨sr, r1, r2, rfl, _⟩ := trod_i64 (v := e8) (y := z1) Try.underlying3 (by simpa [k4] using g1)
      obtain ⟨sv, v1, v2, rfl, _⟩ := trod_i64 (v := e9) (y := z2) Try.underlying3 (by simpa [k4] using g2)
      obtain ⟨d, rfl, hd⟩ := trod_tx (v := e10) (y := z3) Try.underlying9 (by simpa [k4, k5] using g3)
      obtain ⟨n, n1, n2, rfl, _⟩ := trod_i64 (v := e11) (y := y3) Try.underlying3 (by simpa [k1, k2, k3, k4] using h3)
      have hw2 := sized_at hw (j := 2) rfl rfl
      rw [hy2] at hw2
      simp only [List.map_cons, List.map_nil, DataW.weights, Try.underlying30] at hw2
      have hdl := sized_string hw2 (j := 3) rfl (by rw [hd]; rfl)
      exact postLetters_core v (sa, sr, sv, d) c n _ _ W hb hp ⟨by show v.2.2.1.length ≤ 140737488351232; omega, l2, by show v.2.2.2.1.length ≤ 140737488351232; omega⟩ c1 hdl n1 n2
end Go.Proofs.Ytbkpekpajeaacaa
