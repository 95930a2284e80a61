/- VertexApart: the walk. -/
import Derived.Test.YtmhohnffaffdfaaVtxShown
namespace Go.Proofs.Ytmhohnffaffdfaa
open Go.RowKit Go.ChangeShapes Go.WideShapes Go.ChangeAt
set_option maxRecDepth 100000

set_option maxHeartbeats 4000000 in
theorem vertexApart_core (u v : Vt.Vtx) (bu pu bv pv : Value) (n : Int) (W : World) (hbu : BtsAt W bu u.2.2.1) (hpu : TxAt W pu u.2.2.2.1) (hbv : BtsAt W bv v.2.2.1) (hpv : TxAt W pv v.2.2.2.1) (mu : Vt.Mod u) (mv : Vt.Mod v) (n1 : -9223372036854775808 ≤ n) (n2 : n ≤ 9223372036854775807) :
    Calls Try.prog 5 #[vtxV u.1 u.2.1 bu pu u.2.2.2.2.1 u.2.2.2.2.2, vtxV v.1 v.2.1 bv pv v.2.2.2.2.1 v.2.2.2.2.2, .int .i64 n] W fun e W' => e = .returned (.bool true) ∧ Below W.heap.size W W' := by
  obtain ⟨sa, xa, hsa⟩ : ∃ s x, Vt.bytesR u n = (s, x) := ⟨_, _, rfl⟩
  obtain ⟨sb, xb, hsb⟩ : ∃ s x, Vt.bytesR v n = (s, x) := ⟨_, _, rfl⟩
  have hka := Vt.bytesR_cases u n
  have hkb := Vt.bytesR_cases v n
  rw [hsa] at hka
  rw [hsb] at hkb
  have RA := Lib.hid hsa
  have RB := Lib.hid hsb
  have hfin : xa = 0 → xb = 0 → (sa == sb) = (u == v) := by
    intro h1 h2
    rcases hka with ⟨m1, e1⟩ | ⟨_, e1⟩
    · rcases hkb with ⟨m2, e2⟩ | ⟨_, e2⟩
      · simp only [Prod.mk.injEq] at e1 e2
        rw [e1.1, e2.1, Bool.eq_iff_iff, beq_iff_eq, beq_iff_eq]
        exact Vt.apart m1 m2
      · simp only [Prod.mk.injEq] at e2; omega
    · simp only [Prod.mk.injEq] at e1; omega
  have hxa : xa = 0 ∨ xa = 1 := by rcases hka with ⟨_, e⟩ | ⟨_, e⟩ <;> simp only [Prod.mk.injEq] at e <;> omega
  have hxb : xb = 0 ∨ xb = 1 := by rcases hkb with ⟨_, e⟩ | ⟨_, e⟩ <;> simp only [Prod.mk.injEq] at e <;> omega
  obtain ⟨z, hz⟩ : ∃ z, (u == v) = z := ⟨_, rfl⟩
  rw [hz] at hfin
  have HZ := Lib.hid hz
  have HF := Lib.hid hfin
  clear hka hkb hsa hsb hfin hz
  have MU := Lib.hid mu
  have MV := Lib.hid mv
  obtain ⟨a, r, bs, ps, x, y⟩ := u
  obtain ⟨a', r', bs', ps', x', y'⟩ := v
  simp only [] at hbu hpu hbv hpv
  have HBU := Lib.hid hbu
  have HPU := Lib.hid hpu
  have HBV := Lib.hid hbv
  have HPV := Lib.hid hpv
  obtain ⟨m1, m2, rfl⟩ := hbu.len
  obtain ⟨m3, m4, rfl⟩ := hpu.len
  obtain ⟨m5, m6, rfl⟩ := hbv.len
  obtain ⟨m7, m8, rfl⟩ := hpv.len
  have A0 := Lib.hid ((VBox.new W a r (.slice m1 bs.length m2) (.slice m3 ps.length m4) x y).alloc (.cells #[.int .i64 a', .int .i64 r', .slice m5 bs'.length m6, .slice m7 ps'.length m8, .int .i64 x', .int .i64 y'] 28))
  have hb0 := VBox.new (W.alloc (.cells #[.int .i64 a, .int .i64 r, .slice m1 bs.length m2, .slice m3 ps.length m4, .int .i64 x, .int .i64 y] 28)) a' r' (.slice m5 bs'.length m6) (.slice m7 ps'.length m8) x' y'
  rw [World.size_alloc] at hb0
  have B0 := Lib.hid hb0
  have HG := Lib.hid (show Below W.heap.size W ((W.alloc (.cells #[.int .i64 a, .int .i64 r, .slice m1 bs.length m2, .slice m3 ps.length m4, .int .i64 x, .int .i64 y] 28)).alloc (.cells #[.int .i64 a', .int .i64 r', .slice m5 bs'.length m6, .slice m7 ps'.length m8, .int .i64 x', .int .i64 y'] 28)) from ((Below.refl _ _).alloc (Nat.le_refl _) _).alloc (by simp) _)
  clear hb0 hbu hpu hbv hpv mu mv
  go_enter Try.func5, Try.ntmps5
  go_wp2_with fail
  refine (vtxShown _).mono ?_
  rintro e w1 ⟨rfl, g1⟩
  have A1 := Lib.hid (A0.out.kept g1)
  have B1 := Lib.hid (B0.out.kept g1)
  have G1 := Lib.hid (HG.out.trans (g1.mono (by simp; omega)))
  obtain ⟨c0, c1, c2, c3, c4, c5⟩ := A1.out.cells
  clear g1
  go_wp2_with fail
  refine (pvbytes_eq (v := (a, r, bs, ps, x, y)) RA.out _ _ _ (HBU.out.below G1.out) (HPU.out.below G1.out) MU.out.b MU.out.s MU.out.p n1 n2).mono ?_
  rintro e w2 ⟨rfl, g2⟩
  have A2 := Lib.hid (A1.out.kept g2)
  have B2 := Lib.hid (B1.out.kept g2)
  have G2 := Lib.hid (grow_trans G1.out g2)
  clear g2 c0 c1 c2 c3 c4 c5
  obtain ⟨d0, d1, d2, d3, d4, d5⟩ := B2.out.cells
  go_wp2_with fail
  refine (pvbytes_eq (v := (a', r', bs', ps', x', y')) RB.out _ _ _ (HBV.out.below G2.out) (HPV.out.below G2.out) MV.out.b MV.out.s MV.out.p n1 n2).mono ?_
  rintro e w3 ⟨rfl, g3⟩
  have A3 := Lib.hid (A2.out.kept g3)
  have B3 := Lib.hid (B2.out.kept g3)
  have G3 := Lib.hid (grow_trans G2.out g3)
  clear g3 d0 d1 d2 d3 d4 d5
  obtain ⟨c0, c1, c2, c3, c4, c5⟩ := A3.out.cells
  obtain ⟨d0, d1, d2, d3, d4, d5⟩ := B3.out.cells
  clear RA RB
  rcases hxa with rfl | rfl
  · rcases hxb with rfl | rfl
    · have hf := HF.out rfl rfl
      clear HF
      go_wp2_with fail
      refine (rvsame_eq (u := (a, r, bs, ps, x, y)) (v := (a', r', bs', ps', x', y')) HZ.out _ _ _ _ _ (HBU.out.below G3.out) (HPU.out.below G3.out) (HBV.out.below G3.out) (HPV.out.below G3.out) MU.out.b MU.out.s MU.out.p).mono ?_
      rintro e w4 ⟨rfl, g4⟩
      have G4 := Lib.hid (grow_trans G3.out g4)
      clear g4 HZ
      cases z with
      | true =>
        go_wp2
        go_ret
        exact ⟨rfl, G4.out⟩
      | false =>
        go_wp2
        go_ret
        exact ⟨rfl, G4.out⟩
    · clear HF
      go_wp2
      go_ret
      exact ⟨rfl, G3.out⟩
  · clear HF
    go_wp2
    go_ret
    exact ⟨rfl, G3.out⟩

theorem vertexApart_walk {H : Type} (enc : TypeId × Value → H) (W : World) (base : Nat) (v0 : Value) (v1 : Value) (v2 : Value) (d0 : DataW H) (d1 : DataW H) (d2 : DataW H) (p0 : List MemPlace) (p1 : List MemPlace) (p2 : List MemPlace)
    (h0 : DataW.Trod enc Try.prog W 0 (fun _ => true) true 28 v0 d0 p0) (o0 : Value.okWide Try.prog W .any base 28 v0)
    (h1 : DataW.Trod enc Try.prog W 0 (fun _ => true) true 28 v1 d1 p1) (o1 : Value.okWide Try.prog W .any base 28 v1)
    (h2 : DataW.Trod enc Try.prog W 0 (fun _ => true) true 3 v2 d2 p2) (o2 : Value.okWide Try.prog W .any base 3 v2)
    (hsz : (DataW.weightsEach Try.prog [28, 28, 3] [d0, d1, d2]).all (· ≤ reachBytes) = true) :
    Calls Try.prog 5 #[v0, v1, v2] W fun e W' => e = .returned (.bool true) ∧ Below W.heap.size W W' := by
  obtain ⟨u, bu, pu, rfl, hbu, hpu, l1, l2, l3⟩ := open_vtx o0 h0 (sized_at hsz (j := 0) rfl rfl)
  obtain ⟨v, bv, pv, rfl, hbv, hpv, l4, l5, l6⟩ := open_vtx o1 h1 (sized_at hsz (j := 1) rfl rfl)
  obtain ⟨n, n1, n2, rfl, rfl, rfl⟩ := open_i64 Try.underlying3 o2 h2
  exact vertexApart_core u v bu pu bv pv n W hbu hpu hbv hpv ⟨by omega, l2, by omega⟩ ⟨by omega, l5, by omega⟩ n1 n2
end Go.Proofs.Ytmhohnffaffdfaa
