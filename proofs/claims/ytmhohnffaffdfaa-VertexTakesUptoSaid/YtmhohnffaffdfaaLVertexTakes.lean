/- VertexTakes: the walk. -/
import Derived.Test.YtmhohnffaffdfaaVtxShown
namespace Go.Proofs.Ytmhohnffaffdfaa
open Go.RowKit Go.ChangeShapes Go.WideShapes Go.ChangeAt
set_option maxRecDepth 100000

set_option maxHeartbeats 2000000 in
theorem vertexTakes_core (s : List UInt8) (n : Int) (W : World) (hs : s.length ≤ 4294967296) (n1 : -9223372036854775808 ≤ n) (n2 : n ≤ 9223372036854775807) :
    Calls Try.prog 3 #[tx s, .int .i64 n] W fun e W' => e = .returned (.bool true) ∧ Below W.heap.size W W' := by
  have hm := Vt.mod_take s n
  obtain ⟨⟨⟨a, r, bs, ps, x, y⟩, er⟩, hR⟩ : ∃ R, Vt.take s n = R := ⟨_, rfl⟩
  rw [hR] at hm
  simp only [] at hm
  have HR := Lib.hid hR
  have HM := Lib.hid hm
  have hs2 : s.length ≤ 140737488351232 := by omega
  clear hR hm
  go_enter Try.func3, Try.ntmps3
  go_wp2_with fail
  refine (vtxShown _).mono ?_
  rintro e w1 ⟨rfl, g1⟩
  go_wp2_with fail
  refine (pvtake_eq HR.out hs2 (.inr hs) n1 n2 _).mono ?_
  rintro e w2 ⟨bv, pv, rfl, hb, hp, g2⟩
  simp only [] at hb hp
  have G2 := Lib.hid (grow_trans g1 g2)
  have HB := Lib.hid hb
  have HP := Lib.hid hp
  obtain ⟨ab, cb, rfl⟩ := hb.at.len
  obtain ⟨ap, cp, rfl⟩ := hp.at.len
  have g3 : Below w2.heap.size w2 (w2.alloc (.cells #[.int .i64 a, .int .i64 r, .slice ab bs.length cb, .slice ap ps.length cp, .int .i64 x, .int .i64 y] 28)) := (Below.refl _ _).alloc (Nat.le_refl _) _
  have HB3 := Lib.hid (HB.out.keep (Keeps.of g3))
  have HP3 := Lib.hid (HP.out.keepT (Keeps.of g3))
  have VA := Lib.hid (VBox.new w2 a r (.slice ab bs.length cb) (.slice ap ps.length cp) x y)
  have G3 := Lib.hid (grow_trans G2.out g3)
  clear g1 g2 g3 hb hp
  go_wp2_with fail
  refine (rvtake_eq HR.out hs2 n1 n2 _).mono ?_
  rintro e w4 ⟨bv', pv', rfl, hb', hp', g4⟩
  simp only [] at hb' hp'
  have G4 := Lib.hid (grow_trans G3.out g4)
  have HB4 := Lib.hid (HB3.out.keep (Keeps.of g4))
  have HP4 := Lib.hid (HP3.out.keepT (Keeps.of g4))
  have VA4 := Lib.hid (VA.out.kept g4)
  have HBq := Lib.hid hb'
  have HPq := Lib.hid hp'
  obtain ⟨ab', cb', rfl⟩ := hb'.at.len
  obtain ⟨ap', cp', rfl⟩ := hp'.at.len
  have g5 : Below w4.heap.size w4 (w4.alloc (.cells #[.int .i64 a, .int .i64 r, .slice ab' bs.length cb', .slice ap' ps.length cp', .int .i64 x, .int .i64 y] 28)) := (Below.refl _ _).alloc (Nat.le_refl _) _
  have HB5 := Lib.hid (HB4.out.keep (Keeps.of g5))
  have HP5 := Lib.hid (HP4.out.keepT (Keeps.of g5))
  have HB6 := Lib.hid (HBq.out.keep (Keeps.of g5))
  have HP6 := Lib.hid (HPq.out.keepT (Keeps.of g5))
  have VA5 := Lib.hid (VA4.out.kept g5)
  have G5 := Lib.hid (grow_trans G4.out g5)
  obtain ⟨c0, c1, c2, c3, c4, c5⟩ := VA5.out.cells
  clear g4 g5 hb' hp'
  go_wp2_with fail
  refine (rvsame_eq (u := (a, r, bs, ps, x, y)) (v := (a, r, bs, ps, x, y)) (beq_self_eq_true _) _ _ _ _ _ HB5.out.at HP5.out.at HB6.out.at HP6.out.at HM.out.b HM.out.s HM.out.p).mono ?_
  rintro e w6 ⟨rfl, g6⟩
  have G6 := Lib.hid (grow_trans G5.out g6)
  clear g6
  go_wp2
  go_ret
  exact ⟨rfl, G6.out⟩

theorem vertexTakes_walk {H : Type} (enc : TypeId × Value → H) (W : World) (base : Nat) (v0 : Value) (v1 : Value) (d0 : DataW H) (d1 : DataW H) (p0 : List MemPlace) (p1 : List MemPlace)
    (h0 : DataW.Trod enc Try.prog W 0 (fun _ => true) true 9 v0 d0 p0) (o0 : Value.okWide Try.prog W .any base 9 v0)
    (h1 : DataW.Trod enc Try.prog W 0 (fun _ => true) true 3 v1 d1 p1) (o1 : Value.okWide Try.prog W .any base 3 v1)
    (_hsz : (DataW.weightsEach Try.prog [9, 3] [d0, d1]).all (· ≤ reachBytes) = true) (hk : Rows.uptoSmall H [d0, d1] = true) :
    Calls Try.prog 3 #[v0, v1] W fun e W' => e = .returned (.bool true) ∧ Below W.heap.size W W' := by
  obtain ⟨l, rfl, rfl, rfl⟩ := open_tx Try.underlying9 o0 h0
  obtain ⟨n, n1, n2, rfl, rfl, rfl⟩ := open_i64 Try.underlying3 o1 h1
  have hb : l.length ≤ 4294967296 := by
    have hb : Rows.uptoBulkAll [DataW.lit (.string l), DataW.lit (.int .i64 n)] ≤ 1048576 := of_decide_eq_true hk
    simp only [Rows.uptoBulkAll, Rows.uptoBulk] at hb
    omega
  exact vertexTakes_core l n W hb n1 n2
end Go.Proofs.Ytmhohnffaffdfaa
