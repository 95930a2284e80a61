/- The document's Same of proofs. -/
import Derived.Test.YtbkpekpajeaacaaCrBytes
namespace Go.Proofs.Ytbkpekpajeaacaa
open Go.RowKit
set_option maxRecDepth 100000

set_option maxHeartbeats 4000000 in
theorem rcsame (p q : Cr.Prf) (bv pv bv' pv' : Value) (w : World) (hb : BtsAt w bv p.1.2.2.1) (hp : TxAt w pv p.1.2.2.2.1) (hb' : BtsAt w bv' q.1.2.2.1) (hp' : TxAt w pv' q.1.2.2.2.1) (mv : Vt.Mod p.1) :
    Calls Try.prog 32 #[prfV p.1.1 p.1.2.1 bv pv p.1.2.2.2.2.1 p.1.2.2.2.2.2 p.2, prfV q.1.1 q.1.2.1 bv' pv' q.1.2.2.2.2.1 q.1.2.2.2.2.2 q.2] w fun e w' => e = .returned (.bool (p == q)) ∧ Below w.heap.size w w' := by
  have MV := Lib.hid mv
  obtain ⟨v, x⟩ := p
  obtain ⟨v', x'⟩ := q
  simp only [] at hb hp hb' hp'
  obtain ⟨g, hg⟩ : ∃ g, (v == v') = g := ⟨_, rfl⟩
  have E := Lib.hid (show (((v, x) : Cr.Prf) == (v', x')) = (g && (x == x')) by rw [← hg]; rfl)
  have HS := Lib.hid hg
  have HB := Lib.hid hb
  have HP := Lib.hid hp
  have HB' := Lib.hid hb'
  have HP' := Lib.hid hp'
  obtain ⟨m1, m2, h1⟩ := hb.len
  obtain ⟨m3, m4, h2⟩ := hp.len
  obtain ⟨m5, m6, h3⟩ := hb'.len
  obtain ⟨m7, m8, h4⟩ := hp'.len
  obtain ⟨a, r, bs, ps, y, z⟩ := v
  obtain ⟨a', r', bs', ps', y', z'⟩ := v'
  simp only [] at h1 h2 h3 h4 HB HP HB' HP'
  subst h1 h2 h3 h4
  have A0 := Lib.hid ((PBox.new w a r (.slice m1 bs.length m2) (.slice m3 ps.length m4) y z x).alloc (.cells #[.int .i64 a', .int .i64 r', .slice m5 bs'.length m6, .slice m7 ps'.length m8, .int .i64 y', .int .i64 z', .int .u64 x'] 41))
  have hv1 := PBox.new (w.alloc (.cells #[.int .i64 a, .int .i64 r, .slice m1 bs.length m2, .slice m3 ps.length m4, .int .i64 y, .int .i64 z, .int .u64 x] 41)) a' r' (.slice m5 bs'.length m6) (.slice m7 ps'.length m8) y' z' x'
  rw [World.size_alloc] at hv1
  have D0 := Lib.hid hv1
  have HG := Lib.hid (show Below w.heap.size w ((w.alloc (.cells #[.int .i64 a, .int .i64 r, .slice m1 bs.length m2, .slice m3 ps.length m4, .int .i64 y, .int .i64 z, .int .u64 x] 41)).alloc (.cells #[.int .i64 a', .int .i64 r', .slice m5 bs'.length m6, .slice m7 ps'.length m8, .int .i64 y', .int .i64 z', .int .u64 x'] 41)) from ((Below.refl _ _).alloc (Nat.le_refl _) _).alloc (by simp) _)
  obtain ⟨c0, c1, c2, c3, c4, c5, c6⟩ := A0.out.cells
  obtain ⟨d0, d1, d2, d3, d4, d5, d6⟩ := D0.out.cells
  clear hb hp hb' hp' mv hv1 hg
  go_enter Try.func32, Try.ntmps32
  go_wp2_with fail
  refine (rvsame_eq (u := (a, r, bs, ps, y, z)) (v := (a', r', bs', ps', y', z')) HS.out _ _ _ _ _ (HB.out.below HG.out) (HP.out.below HG.out) (HB'.out.below HG.out) (HP'.out.below HG.out) MV.out.b MV.out.s MV.out.p).mono ?_
  rintro e w1 ⟨rfl, g1⟩
  have A1 := Lib.hid (A0.out.kept g1)
  have D1 := Lib.hid (D0.out.kept g1)
  have G1 := Lib.hid (HG.out.trans (g1.mono (by simp; omega)))
  clear g1 c0 c1 c2 c3 c4 c5 c6 d0 d1 d2 d3 d4 d5 d6
  obtain ⟨c0, c1, c2, c3, c4, c5, c6⟩ := A1.out.cells
  obtain ⟨d0, d1, d2, d3, d4, d5, d6⟩ := D1.out.cells
  have en : ((x : Int) == (x' : Int)) = (x == x') := by
    rw [Bool.eq_iff_iff, beq_iff_eq, beq_iff_eq]; omega
  cases g with
  | true =>
    go_wp2
    go_ret
    exact ⟨by rw [E.out, ← en]; rfl, G1.out⟩
  | false =>
    go_wp2
    go_ret
    exact ⟨by rw [E.out]; rfl, G1.out⟩
end Go.Proofs.Ytbkpekpajeaacaa
